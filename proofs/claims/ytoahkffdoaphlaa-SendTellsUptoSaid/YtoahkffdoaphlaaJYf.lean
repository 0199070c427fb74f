/- Joined texts. Conditions: as each theorem lists them. -/
import Derived.Test.YtoahkffdoaphlaaJYe
set_option linter.unusedSimpArgs false
set_option linter.unusedVariables false
set_option maxRecDepth 100000
set_option maxHeartbeats 80000000
namespace Go.Proofs.Ytoahkffdoaphlaa.Se
open Go Go.RowKit Go.Proofs.Ytoahkffdoaphlaa Go.Proofs.Ytoahkffdoaphlaa.Sp Go.Proofs.Ytoahkffdoaphlaa.Sp.Ref
theorem next_K {s:St} {room most a N:Int} (ha:a=(dueS s most).1) (hN:N=(dueS s most).2 - (dueS s most).1) (hK:0<fitK s a N room) :
  NextI s room most a (fitK s a N room) (finS s a (fitK s a N room)) (max (a+fitK s a N room - s.u) 0):=by
 have h:bareS s a≤room∧0<fitS N room (bareS s a):=by
  unfold fitK at hK
  split at hK
  ·assumption
  ·omega
 have e:fitK s a N room=fitS N room (bareS s a):=by unfold fitK;rw [if_pos h]
 refine ⟨ha,?_,rfl,rfl,h.1,fun hx=>by omega⟩
 rw [e,hN]
theorem next_K0 {s:St} (hok:StOk s) {room most a N:Int} (ha:a=(dueS s most).1) (hN:N=(dueS s most).2 - (dueS s most).1) (hK:fitK s a N room=0) (hf:finS s a 0=false):nextS s room most=none:=by
 have hd:=dueS_in hok most
 unfold nextS
 rw [← hN,← ha]
 split
 ·rfl
 ·rename_i hr
  have h0:=fitS_in N room (bareS s a) (by omega) (by omega)
  have hz:fitS N room (bareS s a)=0:=by
   unfold fitK at hK
   split at hK
   ·omega
   ·rename_i hc
    have:¬ 0<fitS N room (bareS s a):=fun h=>hc ⟨by omega,h⟩
    omega
  rw [hz,if_pos ⟨rfl,by rw [hf];simp⟩]
/-- frame in one form: ok tells which. -/
theorem rframe_one {w w':World} {s:St} {off n room:Int} {e:Ending} (h:FrameP w s off n room e w'):Below w.heap.size w w'∧∃ (kk kid a2:Int) (nn:Nat) (fin ok:Bool) (A:Option Addr) (c:Nat),
  e=.returned (.tuple #[.agg #[.int .i64 kk,.int .i64 kid,.int .i64 a2,.int .i64 0,.int .i64 0,.int .i64 0,.bool fin,.slice A nn c,.slice none 0 0],.bool ok])∧(ok=false→fitK s off n room=0) ∧
  (ok=true→kk=3∧kid=s.id∧a2=off∧0<nn∧(nn:Int)=fitK s off n room∧fin=finS s off nn)∧w'.ownsRow w.heap.size 5 1 (.slice A nn c) nn (bv ((s.bs.drop off.toNat).take nn)):=by
 obtain ⟨hb,h | ⟨a,k,A,c,rfl,h1,h2,h3,h4⟩⟩:=h
 ·exact ⟨hb,0,0,0,0,false,false,none,0,h.2,fun _=>h.1,(fun h=>by cases h),own_nil _ _ _ _⟩
 ·exact ⟨hb,3,s.id,a,k,_,true,A,c,h3,fun h=>by (cases h),fun _=>⟨rfl,rfl,rfl,h1,h2,rfl⟩,h4⟩
def RNextP (s:St) (room most:Int) (w:World) (p:Nat) (G:List Nat) (e:Ending) (w':World):Prop :=
 (nextS s room most=none∧e=.returned (.tuple #[.agg #[.int .i64 0,.int .i64 0,.int .i64 0,.int .i64 0,.int .i64 0,.int .i64 0,.bool false,.slice none 0 0,.slice none 0 0],.int .i64 0,.bool false])∧RTo w w' p G s) ∨
 (∃ (a n:Nat) (fin:Bool) (fresh:Int) (A:Option Addr) (c:Nat),NextI s room most a n fin fresh ∧
  e=.returned (.tuple #[.agg #[.int .i64 3,.int .i64 s.id,.int .i64 (a:Int),.int .i64 0,.int .i64 0,.int .i64 0,.bool fin,.slice A n c,.slice none 0 0],.int .i64 fresh,.bool true]) ∧
  RTo w w' p G (putS s a n fin fresh)∧Rd w' w'.heap.size A n (bv ((s.bs.drop a).take n)))
/-- What frame left in a variable of block gx. -/
def FrX (w2 W:World) (gx:Nat) (s:St) (off N room:Int) (ok:Bool):Prop:=∃ (kk kid a2:Int) (nn:Nat) (fin:Bool) (A5:Option Addr) (c5:Nat),FrB W gx kk kid a2 0 0 0 fin A5 nn c5 none 0 0∧Below w2.heap.size w2 W∧w2.heap.size≤gx∧(ok=false→fitK s off N room=0) ∧
    (ok=true→kk=3∧kid=s.id∧a2=off∧0<nn∧(nn:Int)=fitK s off N room∧fin=finS s off nn)∧W.ownsRow w2.heap.size 5 1 (.slice A5 nn c5) nn (bv ((s.bs.drop off.toNat).take nn))
theorem rd_own1 {w:World} {base e n c:Nat} {A:Option Addr} {xs:List Value} (h:w.ownsRow base e 1 (.slice A n c) n xs):Rd w w.heap.size A n xs:=by have:=Rd.of_own h;rwa [Nat.mul_one] at this
section
variable {w w':World} {p:Nat} {G:List Nat} {v1 v8 v9:Value} {s:St}
theorem rnext_hit (h:RIn w p G v1 v8 v9 s) (hok:StOk s) (room most:Int) (hh:hitS s=true) :
  Calls Try.prog 26 #[.pointer (some ⟨p,0,none⟩),.int .i64 room,.int .i64 most] w (RNextP s room most w p G):=by
 have hh':=hh
 unfold hitS at hh'
 simp only [Bool.and_eq_true,decide_eq_true_eq] at hh'
 obtain ⟨h2,hx0,hxy,hyu⟩:=hit_two hok hh'.1
 have hxe:=hh'.2
 obtain ⟨hu0,hu1,hu2⟩:=hok.u
 have hbn:=hok.n
 have hen:=endS_in hok
 have hdue:dueS s most=(s.lost.getD 0 0,min (s.lost.getD 1 0) (endS s)):=by unfold dueS;rw [if_pos hh]
 obtain ⟨x,hx⟩:∃ x,s.lost.getD 0 0=x:=⟨_,rfl⟩
 obtain ⟨y,hy⟩:∃ x,s.lost.getD 1 0=x:=⟨_,rfl⟩
 obtain ⟨en,hen'⟩:∃ x,endS s=x:=⟨_,rfl⟩
 rw [hx] at hx0 hxy hxe hdue
 rw [hy] at hxy hyu hdue
 rw [hen'] at hxe hen hdue
 obtain ⟨N,hN⟩:∃ z,min y en - x=z:=⟨_,rfl⟩
 obtain ⟨a,rfl⟩:∃ a:Nat,x=(a:Int):=⟨x.toNat,by omega⟩
 obtain ⟨g,hg⟩:∃ g,w.heap.size=g:=⟨_,rfl⟩
 obtain ⟨w1,hw1⟩:∃ x,w.alloc (.cells #[.int .i64 0,.int .i64 0,.int .i64 0,.int .i64 0,.int .i64 0,.int .i64 0,.bool false,.slice none 0 0,.slice none 0 0] 54)=x:=⟨_,rfl⟩
 have hM:RMid w w1 p g G G v1 v8 v9 s:=by rw [← hg,← hw1];exact rmid_new h _
 have hg1:w1.heap[g]?=some (.cells #[.int .i64 0,.int .i64 0,.int .i64 0,.int .i64 0,.int .i64 0,.int .i64 0,.bool false,.slice none 0 0,.slice none 0 0] 54 (0,0)):=by rw [← hg,← hw1];exact heap_alloc_new w _
 obtain ⟨hL1,A9,m,c9,e9,hm,hmc,hr9,_⟩:=hM.st.lost
 subst e9
 obtain ⟨bb,oo,hA,hbb,hcs⟩:=hr9.2 (by omega)
 subst hA
 obtain ⟨_,_,_,_,_,_,_,_,_,hc9,_⟩:=hM.st.cells
 have hcx:w1.cell? ⟨bb,oo,none⟩=some (.int .i64 (a:Int)):=by have:=hcs 0 _ (ints_get s.lost 0 (by omega));rwa [hx] at this
 have hcy:w1.cell? ⟨bb,oo+1,none⟩=some (.int .i64 y):=by have:=hcs 1 _ (ints_get s.lost 1 (by omega));rwa [hy] at this
 have hm0:(0:Int)<(m:Int):=by omega
 have hmcI:(m:Int)≤(c9:Int):=by omega
 have haI:(a:Int)≤4000:=by omega
 have hyI:y≤4000:=by omega
 have henI:en≤4000:=by omega
 have hwN:IntKind.i64.wrap N=N:=IntWalk.i64_in _ (by omega)
 have hN0:0<N:=by omega
 have HFR:=Lib.hid (fun (W:World) (hW:Below w1.heap.size w1 W)=>rframe_st (hM.st.below hW) hok a N room (by omega) (by omega))
 have HMAY:=Lib.hid (fun (W:World) (hW:Below w1.heap.size w1 W)=>rmay_st (hM.st.below hW))
 rw [hen'] at HMAY
 have HD:Hid ((a:Int)=(dueS s most).1∧N=(dueS s most).2 - (dueS s most).1):=by
  show _∧_
  rw [hdue]
  exact ⟨rfl,by show N=min y en - (a:Int);omega⟩
 have HF0:Hid (finS s (a:Int) 0=false):=by
  show finS s (a:Int) 0=false
  unfold finS
  rw [decide_eq_false (by omega)]
  simp
 obtain ⟨Q,hQ⟩:∃ Q,RNextP s room most w p G=Q:=⟨_,rfl⟩
 have HQ:Hid (∀ e w',RNextP s room most w p G e w'→Q e w'):=fun e w' hq=>by rw [← hQ];exact hq
 rw [hQ]
 have HOK:=Lib.hid hok
 have HLN:=Lib.hid (edges_len hok)
 have HM:=Lib.hid hM
 have HG:=Lib.hid hg1
 have HW:=Lib.hid hw1
 have HGG:=Lib.hid hg
 have HYU:=Lib.hid hyu
 clear h hok hh hh' h2 hM hg1 hw1 hg hdue hx hy hen' hcs hr9 hL1 hm hQ hu0 hu1 hu2 hbn hbb hmc hyu
 go_enter Try.func26,Try.ntmps26
 go_wp2_with fail
 rw [HW.out,HGG.out]
 go_loopw [9] (fun i wr=>i=.int .i64 0∧wr=w1) (fun _ _=>0)
 case atStart=>exact ⟨rfl,rfl⟩
 case round =>
  obtain ⟨rfl,rfl⟩:=hrel
  go_upto_region 5 with (fail)
  obtain ⟨wx,hwx⟩:∃ z,wr.alloc (.cells #[.int .i64 (a:Int),.int .i64 y] 88)=z:=⟨_,rfl⟩
  obtain ⟨bx,hbx⟩:∃ z,wr.heap.size=z:=⟨_,rfl⟩
  have HBX:Hid (Below wr.heap.size wr wx):=by rw [← hwx];exact (Below.refl _ _).alloc (Nat.le_refl _) _
  have HXC:Hid (wx.heap[bx]?=some (.cells #[.int .i64 (a:Int),.int .i64 y] 88 (0,0))):=by rw [← hwx,← hbx];exact heap_alloc_new wr _
  rw [hwx,hbx]
  clear hwx hcx hcy hc9
  have x0:=cell_slot (o:=0) HXC.out rfl
  have x1:=cell_slot (o:=1) HXC.out rfl
  have HMY:Hid (∀ n,Calls Try.prog 70 #[.pointer (some ⟨p,0,none⟩)] (wx.drewN n) fun e w'=>e=.returned (.int .i64 en)∧w'=wx.drewN n):=fun n=>HMAY.out _ (below_nq HBX.out n)
  go_quiet ((go_at_call 70;exact Calls.quiet_of_same (HMY.out _)))
  obtain ⟨w2,hw2⟩:∃ z,wx.drewN nq=z:=⟨_,rfl⟩
  have HB2:Hid (Below wr.heap.size wr w2):=by rw [← hw2];exact below_nq HBX.out _
  have HX2:Hid (w2.heap[bx]?=some (.cells #[.int .i64 (a:Int),.int .i64 y] 88 (0,0))):=by rw [← hw2];exact HXC.out
  rw [hw2]
  clear hw2 x0 x1 HXC HBX HMY
  go_upto_region 6 with (fail)
  have HS:Hid (∀ W,Below w2.heap.size w2 W→(Below w2.heap.size w2 W∧W.cell? ⟨bx,0,none⟩=some (.int .i64 (a:Int))∧W.cell? ⟨bx,1,none⟩=some (.int .i64 y))):=fun W hW=>by
   have hh:=(hW.block bx (lt_of_block HX2.out)).trans HX2.out
   exact ⟨hW,cell_slot (o:=0) hh rfl,cell_slot (o:=1) hh rfl⟩
  have HMY:Hid (∀ W,Below w2.heap.size w2 W→Calls Try.prog 70 #[.pointer (some ⟨p,0,none⟩)] W fun e w'=>e=.returned (.int .i64 en)∧w'=W):=fun W hW=>HMAY.out _ (HB2.out.trans (hW.mono HB2.out.size))
  have HFC:Hid (∀ W,Below w2.heap.size w2 W→Calls Try.prog 71 #[.pointer (some ⟨p,0,none⟩),.int .i64 (a:Int),.int .i64 N,.int .i64 room] W (FrameP W s (a:Int) N room)):=fun W hW=>HFR.out _ (HB2.out.trans (hW.mono HB2.out.size))
  clear HMAY HFR
  go_cut [11,12] (fun v11 v12 wx=>∃ (gx:Nat) (ok:Bool),v11=.pointer (some ⟨gx,0,none⟩)∧v12=.bool ok∧Hid (FrX w2 wx gx s (a:Int) N room ok))
  case first =>
   refine wp_region_held_drew (S:=(fun W:World=>Below w2.heap.size w2 W∧W.cell? ⟨bx,0,none⟩=some (.int .i64 (a:Int))∧W.cell? ⟨bx,1,none⟩=some (.int .i64 y))) (by kernel_rfl) ?_ (fun hHeld=>?_)
   ·exact HS.out _ ((Below.refl w2.heap.size w2).drew)
   refine wpAnyH_take (i:=0) (v:=?_) rfl (by kernel_rfl) (by kernel_rfl) (by kernel_rfl) (fun _ _ _ h=>h) (Or.inl ⟨by rfl,?_⟩) (by assumption) ?_
   rotate_left
   ·intro w hSw;(try dsimp only at hSw);go_simp;try with_reducible rfl
   go_simp
   refine wpAnyH_take (i:=1) (v:=?_) rfl (by kernel_rfl) (by kernel_rfl) (by kernel_rfl) (fun _ _ _ h=>h) (Or.inl ⟨by rfl,?_⟩) (by assumption) ?_
   rotate_left
   ·intro w hSw;(try dsimp only at hSw);go_simp;try with_reducible rfl
   go_simp
   refine wpAnyH_take (i:=2) (v:=?_) rfl (by kernel_rfl) (by kernel_rfl) (by kernel_rfl) (fun _ _ _ h=>h) (Or.inl ⟨by rfl,?_⟩) (by assumption) ?_
   rotate_left
   ·intro w hSw;(try dsimp only at hSw);go_simp;try with_reducible rfl
   go_simp
   refine wpAnyH_take (i:=3) (v:=?_) rfl (by kernel_rfl) (by kernel_rfl) (by kernel_rfl) (fun _ _ _ h=>h) (Or.inl ⟨by rfl,?_⟩) (by assumption) ?_
   rotate_left
   ·intro w hSw;(try dsimp only at hSw);go_simp;try with_reducible rfl
   go_simp
   refine wpAnyH_take (i:=4) (v:=?_) rfl (by kernel_rfl) (by kernel_rfl) (by kernel_rfl) (fun _ _ _ h=>h) (Or.inl ⟨by rfl,?_⟩) (by assumption) ?_
   rotate_left
   ·intro w hSw;(try dsimp only at hSw);go_simp;try with_reducible rfl
   go_simp
   refine wpAnyH_take (i:=5) (v:=?_) rfl (by kernel_rfl) (by kernel_rfl) (by kernel_rfl) (fun _ _ _ h=>h) (Or.inl ⟨by rfl,?_⟩) (by assumption) ?_
   rotate_left
   ·intro w hSw;(try dsimp only at hSw);go_simp;try with_reducible rfl
   go_simp
   refine wpAnyH_take (i:=8) (v:=?_) rfl (by kernel_rfl) (by kernel_rfl) (by kernel_rfl) (fun _ _ _ h=>h) (Or.inl ⟨by rfl,?_⟩) (by assumption) ?_
   rotate_left
   ·intro w hSw;(try dsimp only at hSw);go_simp;try with_reducible rfl
   go_simp
   refine wpAnyH_take (i:=9) (v:=?_) rfl (by kernel_rfl) (by kernel_rfl) (by kernel_rfl) (fun _ _ _ h=>h) (Or.inl ⟨by rfl,?_⟩) (by assumption) ?_
   rotate_left
   ·intro w hSw;(try dsimp only at hSw);go_simp;try with_reducible rfl
   go_simp
   refine wpAnyH_take (i:=11) (v:=?_) rfl (by kernel_rfl) (by kernel_rfl) (by kernel_rfl) (fun _ _ _ h=>h) (Or.inl ⟨by rfl,?_⟩) (by assumption) ?_
   rotate_left
   ·intro w hSw;(try dsimp only at hSw);go_simp;try with_reducible rfl
   go_simp
   refine wpAnyH_ready (rs:=[6,16]) (by kernel_rfl) (by simp) ?_
   refine AllReadyH.cons rfl (fun K hK=>?_) ?_
   ·skip
    go_simp
    refine (HMY.out _ ((Below.refl w2.heap.size w2).drew)).mono ?_
    rintro e wm ⟨rfl,rfl⟩
    refine hK.out _ _ ?_ (fun hHeld=>?_)
    ·exact HS.out _ ((Below.refl w2.heap.size w2).drew)
    clear hK K
    go_simp
    refine wpAnyH_take (i:=7) (v:=?_) rfl (by kernel_rfl) (by kernel_rfl) (by kernel_rfl) (fun _ _ _ h=>h) (Or.inl ⟨by rfl,?_⟩) (by assumption) ?_
    rotate_left
    ·intro w hSw;(try dsimp only at hSw);go_simp;try with_reducible rfl
    go_simp
    refine wpAnyH_take (i:=10) (v:=?_) rfl (by kernel_rfl) (by kernel_rfl) (by kernel_rfl) (fun _ _ _ h=>h) (Or.inl ⟨by rfl,?_⟩) (by assumption) ?_
    rotate_left
    ·intro w hSw;(try dsimp only at hSw);go_simp;try with_reducible rfl
    go_simp
    refine wpAnyH_ready (rs:=[12,16]) (by kernel_rfl) (by simp) ?_
    refine AllReadyH.cons rfl (fun K hK=>?_) ?_
    ·skip
     go_simp
     refine (HFC.out _ ((Below.refl w2.heap.size w2).drew)).mono ?_
     rintro e w5 hq
     obtain ⟨hb5,kk,kid,a2,nn,fin,ok,A5,c5,rfl,hok0,hok1,ho5⟩:=rframe_one hq
     have HB5:Hid (Below w2.heap.size w2 w5):=(((Below.refl w2.heap.size w2).drew)).trans (hb5.mono (((Below.refl w2.heap.size w2).drew)).size)
     have HO5:Hid (w5.ownsRow w2.heap.size 5 1 (.slice A5 nn c5) nn (bv ((s.bs.drop a).take nn))):=own_base ho5 (((Below.refl w2.heap.size w2).drew)).size
     refine hK.out _ _ ?_ (fun hHeld=>?_)
     ·exact HS.out _ HB5.out
     clear hK K
     go_simp
     refine wpAnyH_take (i:=13) (v:=?_) rfl (by kernel_rfl) (by kernel_rfl) (by kernel_rfl) (fun _ _ _ h=>h) (Or.inl ⟨by rfl,?_⟩) (by assumption) ?_
     rotate_left
     ·intro w hSw;(try dsimp only at hSw);go_simp;try with_reducible rfl
     go_simp
     refine wpAnyH_take (i:=14) (v:=?_) rfl (by kernel_rfl) (by kernel_rfl) (by kernel_rfl) (fun _ _ _ h=>h) (Or.inl ⟨by rfl,?_⟩) (by assumption) ?_
     rotate_left
     ·intro w hSw;(try dsimp only at hSw);go_simp;try with_reducible rfl
     go_simp
     refine wpAnyH_take (i:=15) (v:=?_) rfl (by kernel_rfl) (by kernel_rfl) (by kernel_rfl) (fun _ _ _ h=>h) (Or.inl ⟨by rfl,?_⟩) (by assumption) ?_
     rotate_left
     ·intro w hSw;(try dsimp only at hSw);go_simp;try with_reducible rfl
     go_simp
     refine wpAnyH_ready (rs:=[16]) (by kernel_rfl) (by simp) ?_
     refine AllReadyH.cons rfl (fun K hK=>?_) AllReadyH.nil
     go_simp
     refine hK.out _ _ ?_ (fun hHeld=>?_)
     ·exact HS.out _ (HB5.out.alloc HB5.out.size _)
     clear hK K
     go_simp
     refine wpAnyH_ready (rs:=[17]) (by kernel_rfl) (by simp) ?_
     refine AllReadyH.cons rfl (fun K hK=>?_) AllReadyH.nil
     go_simp
     refine hK.out _ _ ?_ (fun hHeld=>?_)
     ·exact HS.out _ (HB5.out.alloc HB5.out.size _)
     clear hK K
     go_simp
     refine wpAnyH_take (i:=18) (v:=?_) rfl (by kernel_rfl) (by kernel_rfl) (by kernel_rfl) (fun _ _ _ h=>h) (Or.inl ⟨by rfl,?_⟩) (by assumption) ?_
     rotate_left
     ·intro w hSw;(try dsimp only at hSw);go_simp;try with_reducible rfl
     go_simp
     refine wpAnyH_done (by kernel_rfl) ?_ _
     clear hq hb5 ho5
     go_wp2_with fail
     go_meet
     case rel=>exact ⟨w5.heap.size,ok,rfl,rfl,kk,kid,a2,nn,fin,A5,c5,heap_alloc_new w5 _,HB5.out.alloc HB5.out.size _,HB5.out.size,hok0,hok1,HO5.out.alloc _⟩
    refine AllReadyH.cons rfl (fun K hK=>?_) ?_
    ·skip
     go_simp
     refine hK.out _ _ ?_ (fun hHeld=>?_)
     ·exact HS.out _ (((Below.refl w2.heap.size w2).drew).alloc (Nat.le_refl _) (.cells #[.int .i64 0,.int .i64 0,.int .i64 0,.int .i64 0,.int .i64 0,.int .i64 0,.bool false,.slice none 0 0,.slice none 0 0] 54))
     clear hK K
     go_simp
     refine wpAnyH_ready (rs:=[12]) (by kernel_rfl) (by simp) ?_
     refine AllReadyH.cons rfl (fun K hK=>?_) AllReadyH.nil
     go_simp
     refine (HFC.out _ (((Below.refl w2.heap.size w2).drew).alloc (Nat.le_refl _) (.cells #[.int .i64 0,.int .i64 0,.int .i64 0,.int .i64 0,.int .i64 0,.int .i64 0,.bool false,.slice none 0 0,.slice none 0 0] 54))).mono ?_
     rintro e w5 hq
     obtain ⟨hb5,kk,kid,a2,nn,fin,ok,A5,c5,rfl,hok0,hok1,ho5⟩:=rframe_one hq
     have HB5:Hid (Below w2.heap.size w2 w5):=((((Below.refl w2.heap.size w2).drew).alloc (Nat.le_refl _) (.cells #[.int .i64 0,.int .i64 0,.int .i64 0,.int .i64 0,.int .i64 0,.int .i64 0,.bool false,.slice none 0 0,.slice none 0 0] 54))).trans (hb5.mono ((((Below.refl w2.heap.size w2).drew).alloc (Nat.le_refl _) (.cells #[.int .i64 0,.int .i64 0,.int .i64 0,.int .i64 0,.int .i64 0,.int .i64 0,.bool false,.slice none 0 0,.slice none 0 0] 54))).size)
     have HO5:Hid (w5.ownsRow w2.heap.size 5 1 (.slice A5 nn c5) nn (bv ((s.bs.drop a).take nn))):=own_base ho5 ((((Below.refl w2.heap.size w2).drew).alloc (Nat.le_refl _) (.cells #[.int .i64 0,.int .i64 0,.int .i64 0,.int .i64 0,.int .i64 0,.int .i64 0,.bool false,.slice none 0 0,.slice none 0 0] 54))).size
     have HGX5:Hid (w5.heap[w2.heap.size]?=some (.cells #[.int .i64 0,.int .i64 0,.int .i64 0,.int .i64 0,.int .i64 0,.int .i64 0,.bool false,.slice none 0 0,.slice none 0 0] 54 (0,0))):=(hb5.block _ (by simp)).trans (heap_alloc_new w2.drew _)
     have hgo:∀ q ∈ fp (.slice A5 nn c5),q≠w2.heap.size:=fun q hq e=>own_other HO5.out HGX5.out (by decide) (e ▸ fp_own.1 hq)
     refine hK.out _ _ ?_ (fun hHeld=>?_)
     ·exact HS.out _ HB5.out
     clear hK K
     go_simp
     refine wpAnyH_take (i:=13) (v:=?_) rfl (by kernel_rfl) (by kernel_rfl) (by kernel_rfl) (fun _ _ _ h=>h) (Or.inl ⟨by rfl,?_⟩) (by assumption) ?_
     rotate_left
     ·intro w hSw;(try dsimp only at hSw);go_simp;try with_reducible rfl
     go_simp
     refine wpAnyH_take (i:=14) (v:=?_) rfl (by kernel_rfl) (by kernel_rfl) (by kernel_rfl) (fun _ _ _ h=>h) (Or.inl ⟨by rfl,?_⟩) (by assumption) ?_
     rotate_left
     ·intro w hSw;(try dsimp only at hSw);go_simp;try with_reducible rfl
     go_simp
     refine wpAnyH_take (i:=15) (v:=?_) rfl (by kernel_rfl) (by kernel_rfl) (by kernel_rfl) (fun _ _ _ h=>h) (Or.inl ⟨by rfl,?_⟩) (by assumption) ?_
     rotate_left
     ·intro w hSw;(try dsimp only at hSw);go_simp;try with_reducible rfl
     go_simp
     refine wpAnyH_ready (rs:=[17]) (by kernel_rfl) (by simp) ?_
     refine AllReadyH.cons rfl (fun K hK=>?_) AllReadyH.nil
     have q0:=cell_slot (o:=0) HGX5.out rfl
     have f0:=free_slot (o:=0) HGX5.out
     have q1:=cell_slot (o:=1) HGX5.out rfl
     have f1:=free_slot (o:=1) HGX5.out
     have q2:=cell_slot (o:=2) HGX5.out rfl
     have f2:=free_slot (o:=2) HGX5.out
     have q3:=cell_slot (o:=3) HGX5.out rfl
     have f3:=free_slot (o:=3) HGX5.out
     have q4:=cell_slot (o:=4) HGX5.out rfl
     have f4:=free_slot (o:=4) HGX5.out
     have q5:=cell_slot (o:=5) HGX5.out rfl
     have f5:=free_slot (o:=5) HGX5.out
     have q6:=cell_slot (o:=6) HGX5.out rfl
     have f6:=free_slot (o:=6) HGX5.out
     have q7:=cell_slot (o:=7) HGX5.out rfl
     have f7:=free_slot (o:=7) HGX5.out
     have q8:=cell_slot (o:=8) HGX5.out rfl
     have f8:=free_slot (o:=8) HGX5.out
     go_simp
     refine hK.out _ _ ?_ (fun hHeld=>?_)
     ·exact HS.out _ (below_set (Nat.le_refl _) (below_set (Nat.le_refl _) (below_set (Nat.le_refl _) (below_set (Nat.le_refl _) (below_set (Nat.le_refl _) (below_set (Nat.le_refl _) (below_set (Nat.le_refl _) (below_set (Nat.le_refl _) (below_set (Nat.le_refl _) HB5.out _ _) _ _) _ _) _ _) _ _) _ _) _ _) _ _) _ _)
     clear hK K
     go_simp
     refine wpAnyH_take (i:=18) (v:=?_) rfl (by kernel_rfl) (by kernel_rfl) (by kernel_rfl) (fun _ _ _ h=>h) (Or.inl ⟨by rfl,?_⟩) (by assumption) ?_
     rotate_left
     ·intro w hSw;(try dsimp only at hSw);go_simp;try with_reducible rfl
     go_simp
     refine wpAnyH_done (by kernel_rfl) ?_ _
     clear hq hb5 ho5
     go_wp2_with fail
     go_meet
     case rel=>exact ⟨w2.heap.size,ok,rfl,rfl,kk,kid,a2,nn,fin,A5,c5,nine_heap HGX5.out _ _ _ _ _ _ _ _ _,(below_set (Nat.le_refl _) (below_set (Nat.le_refl _) (below_set (Nat.le_refl _) (below_set (Nat.le_refl _) (below_set (Nat.le_refl _) (below_set (Nat.le_refl _) (below_set (Nat.le_refl _) (below_set (Nat.le_refl _) (below_set (Nat.le_refl _) HB5.out _ _) _ _) _ _) _ _) _ _) _ _) _ _) _ _) _ _),Nat.le_refl _,hok0,hok1,nine_own HO5.out hgo _ _ _ _ _ _ _ _ _⟩
    exact AllReadyH.nil
   refine AllReadyH.cons rfl (fun K hK=>?_) ?_
   ·skip
    go_simp
    refine hK.out _ _ ?_ (fun hHeld=>?_)
    ·exact HS.out _ (((Below.refl w2.heap.size w2).drew).alloc (Nat.le_refl _) (.cells #[.int .i64 0,.int .i64 0,.int .i64 0,.int .i64 0,.int .i64 0,.int .i64 0,.bool false,.slice none 0 0,.slice none 0 0] 54))
    clear hK K
    go_simp
    refine wpAnyH_ready (rs:=[6]) (by kernel_rfl) (by simp) ?_
    refine AllReadyH.cons rfl (fun K hK=>?_) AllReadyH.nil
    go_simp
    refine (HMY.out _ (((Below.refl w2.heap.size w2).drew).alloc (Nat.le_refl _) (.cells #[.int .i64 0,.int .i64 0,.int .i64 0,.int .i64 0,.int .i64 0,.int .i64 0,.bool false,.slice none 0 0,.slice none 0 0] 54))).mono ?_
    rintro e wm ⟨rfl,rfl⟩
    refine hK.out _ _ ?_ (fun hHeld=>?_)
    ·exact HS.out _ (((Below.refl w2.heap.size w2).drew).alloc (Nat.le_refl _) (.cells #[.int .i64 0,.int .i64 0,.int .i64 0,.int .i64 0,.int .i64 0,.int .i64 0,.bool false,.slice none 0 0,.slice none 0 0] 54))
    clear hK K
    go_simp
    refine wpAnyH_take (i:=7) (v:=?_) rfl (by kernel_rfl) (by kernel_rfl) (by kernel_rfl) (fun _ _ _ h=>h) (Or.inl ⟨by rfl,?_⟩) (by assumption) ?_
    rotate_left
    ·intro w hSw;(try dsimp only at hSw);go_simp;try with_reducible rfl
    go_simp
    refine wpAnyH_take (i:=10) (v:=?_) rfl (by kernel_rfl) (by kernel_rfl) (by kernel_rfl) (fun _ _ _ h=>h) (Or.inl ⟨by rfl,?_⟩) (by assumption) ?_
    rotate_left
    ·intro w hSw;(try dsimp only at hSw);go_simp;try with_reducible rfl
    go_simp
    refine wpAnyH_ready (rs:=[12]) (by kernel_rfl) (by simp) ?_
    refine AllReadyH.cons rfl (fun K hK=>?_) AllReadyH.nil
    go_simp
    refine (HFC.out _ (((Below.refl w2.heap.size w2).drew).alloc (Nat.le_refl _) (.cells #[.int .i64 0,.int .i64 0,.int .i64 0,.int .i64 0,.int .i64 0,.int .i64 0,.bool false,.slice none 0 0,.slice none 0 0] 54))).mono ?_
    rintro e w5 hq
    obtain ⟨hb5,kk,kid,a2,nn,fin,ok,A5,c5,rfl,hok0,hok1,ho5⟩:=rframe_one hq
    have HB5:Hid (Below w2.heap.size w2 w5):=((((Below.refl w2.heap.size w2).drew).alloc (Nat.le_refl _) (.cells #[.int .i64 0,.int .i64 0,.int .i64 0,.int .i64 0,.int .i64 0,.int .i64 0,.bool false,.slice none 0 0,.slice none 0 0] 54))).trans (hb5.mono ((((Below.refl w2.heap.size w2).drew).alloc (Nat.le_refl _) (.cells #[.int .i64 0,.int .i64 0,.int .i64 0,.int .i64 0,.int .i64 0,.int .i64 0,.bool false,.slice none 0 0,.slice none 0 0] 54))).size)
    have HO5:Hid (w5.ownsRow w2.heap.size 5 1 (.slice A5 nn c5) nn (bv ((s.bs.drop a).take nn))):=own_base ho5 ((((Below.refl w2.heap.size w2).drew).alloc (Nat.le_refl _) (.cells #[.int .i64 0,.int .i64 0,.int .i64 0,.int .i64 0,.int .i64 0,.int .i64 0,.bool false,.slice none 0 0,.slice none 0 0] 54))).size
    have HGX5:Hid (w5.heap[w2.heap.size]?=some (.cells #[.int .i64 0,.int .i64 0,.int .i64 0,.int .i64 0,.int .i64 0,.int .i64 0,.bool false,.slice none 0 0,.slice none 0 0] 54 (0,0))):=(hb5.block _ (by simp)).trans (heap_alloc_new w2.drew _)
    have hgo:∀ q ∈ fp (.slice A5 nn c5),q≠w2.heap.size:=fun q hq e=>own_other HO5.out HGX5.out (by decide) (e ▸ fp_own.1 hq)
    refine hK.out _ _ ?_ (fun hHeld=>?_)
    ·exact HS.out _ HB5.out
    clear hK K
    go_simp
    refine wpAnyH_take (i:=13) (v:=?_) rfl (by kernel_rfl) (by kernel_rfl) (by kernel_rfl) (fun _ _ _ h=>h) (Or.inl ⟨by rfl,?_⟩) (by assumption) ?_
    rotate_left
    ·intro w hSw;(try dsimp only at hSw);go_simp;try with_reducible rfl
    go_simp
    refine wpAnyH_take (i:=14) (v:=?_) rfl (by kernel_rfl) (by kernel_rfl) (by kernel_rfl) (fun _ _ _ h=>h) (Or.inl ⟨by rfl,?_⟩) (by assumption) ?_
    rotate_left
    ·intro w hSw;(try dsimp only at hSw);go_simp;try with_reducible rfl
    go_simp
    refine wpAnyH_take (i:=15) (v:=?_) rfl (by kernel_rfl) (by kernel_rfl) (by kernel_rfl) (fun _ _ _ h=>h) (Or.inl ⟨by rfl,?_⟩) (by assumption) ?_
    rotate_left
    ·intro w hSw;(try dsimp only at hSw);go_simp;try with_reducible rfl
    go_simp
    refine wpAnyH_ready (rs:=[17]) (by kernel_rfl) (by simp) ?_
    refine AllReadyH.cons rfl (fun K hK=>?_) AllReadyH.nil
    have q0:=cell_slot (o:=0) HGX5.out rfl
    have f0:=free_slot (o:=0) HGX5.out
    have q1:=cell_slot (o:=1) HGX5.out rfl
    have f1:=free_slot (o:=1) HGX5.out
    have q2:=cell_slot (o:=2) HGX5.out rfl
    have f2:=free_slot (o:=2) HGX5.out
    have q3:=cell_slot (o:=3) HGX5.out rfl
    have f3:=free_slot (o:=3) HGX5.out
    have q4:=cell_slot (o:=4) HGX5.out rfl
    have f4:=free_slot (o:=4) HGX5.out
    have q5:=cell_slot (o:=5) HGX5.out rfl
    have f5:=free_slot (o:=5) HGX5.out
    have q6:=cell_slot (o:=6) HGX5.out rfl
    have f6:=free_slot (o:=6) HGX5.out
    have q7:=cell_slot (o:=7) HGX5.out rfl
    have f7:=free_slot (o:=7) HGX5.out
    have q8:=cell_slot (o:=8) HGX5.out rfl
    have f8:=free_slot (o:=8) HGX5.out
    go_simp
    refine hK.out _ _ ?_ (fun hHeld=>?_)
    ·exact HS.out _ (below_set (Nat.le_refl _) (below_set (Nat.le_refl _) (below_set (Nat.le_refl _) (below_set (Nat.le_refl _) (below_set (Nat.le_refl _) (below_set (Nat.le_refl _) (below_set (Nat.le_refl _) (below_set (Nat.le_refl _) (below_set (Nat.le_refl _) HB5.out _ _) _ _) _ _) _ _) _ _) _ _) _ _) _ _) _ _)
    clear hK K
    go_simp
    refine wpAnyH_take (i:=18) (v:=?_) rfl (by kernel_rfl) (by kernel_rfl) (by kernel_rfl) (fun _ _ _ h=>h) (Or.inl ⟨by rfl,?_⟩) (by assumption) ?_
    rotate_left
    ·intro w hSw;(try dsimp only at hSw);go_simp;try with_reducible rfl
    go_simp
    refine wpAnyH_done (by kernel_rfl) ?_ _
    clear hq hb5 ho5
    go_wp2_with fail
    go_meet
    case rel=>exact ⟨w2.heap.size,ok,rfl,rfl,kk,kid,a2,nn,fin,A5,c5,nine_heap HGX5.out _ _ _ _ _ _ _ _ _,(below_set (Nat.le_refl _) (below_set (Nat.le_refl _) (below_set (Nat.le_refl _) (below_set (Nat.le_refl _) (below_set (Nat.le_refl _) (below_set (Nat.le_refl _) (below_set (Nat.le_refl _) (below_set (Nat.le_refl _) (below_set (Nat.le_refl _) HB5.out _ _) _ _) _ _) _ _) _ _) _ _) _ _) _ _) _ _),Nat.le_refl _,hok0,hok1,nine_own HO5.out hgo _ _ _ _ _ _ _ _ _⟩
   exact AllReadyH.nil
  case rest =>
   obtain ⟨gx,ok,hv11,hv12,HX⟩:=hcut
   subst hv11
   subst hv12
   obtain ⟨kk,kid,a2,nn,fin,A5,c5,hf5,hb5,hgx,hok0,hok1,ho5⟩:=HX.out
   have HF5:=Lib.hid hf5
   have HB5:=Lib.hid hb5
   have HGX:=Lib.hid hgx
   have HBC:Hid (Below wr.heap.size wr wc):=HB2.out.trans (hb5.mono HB2.out.size)
   have HMC:=Lib.hid (HM.out.below HBC.out)
   have HG5:Hid (wc.heap[g]?=some (.cells #[.int .i64 0,.int .i64 0,.int .i64 0,.int .i64 0,.int .i64 0,.int .i64 0,.bool false,.slice none 0 0,.slice none 0 0] 54 (0,0))):=(HBC.out.block g (lt_of_block HG.out)).trans HG.out
   have HO5:=Lib.hid ho5
   have HXB:Hid (wc.heap[bx]?=some (.cells #[.int .i64 (a:Int),.int .i64 y] 88 (0,0))):=(hb5.block bx (lt_of_block HX2.out)).trans HX2.out
   clear hf5 hb5 hgx ho5 HX HS HMY HFC
   cases ok
   ·have HK0:=Lib.hid (hok0 rfl)
    clear hok0 hok1
    have z0:=cell_slot (o:=0) HG5.out rfl
    have f0:=free_slot (o:=0) HG5.out
    have z1:=cell_slot (o:=1) HG5.out rfl
    have f1:=free_slot (o:=1) HG5.out
    have z2:=cell_slot (o:=2) HG5.out rfl
    have f2:=free_slot (o:=2) HG5.out
    have z3:=cell_slot (o:=3) HG5.out rfl
    have f3:=free_slot (o:=3) HG5.out
    have z4:=cell_slot (o:=4) HG5.out rfl
    have f4:=free_slot (o:=4) HG5.out
    have z5:=cell_slot (o:=5) HG5.out rfl
    have f5:=free_slot (o:=5) HG5.out
    have z6:=cell_slot (o:=6) HG5.out rfl
    have f6:=free_slot (o:=6) HG5.out
    have z7:=cell_slot (o:=7) HG5.out rfl
    have f7:=free_slot (o:=7) HG5.out
    have z8:=cell_slot (o:=8) HG5.out rfl
    have f8:=free_slot (o:=8) HG5.out
    go_wp2_with fail
    refine ret_three rfl _ _ g 54 _ _ _ _ _ _ _ _ _ _ _ _ rfl rfl rfl (nine_heap HG5.out _ _ _ _ _ _ _ _ _) Try.underlying54 rfl (by kernel_rfl) ?_
    refine HQ.out _ _ (.inl ⟨next_K0 HOK.out HD.out.1 HD.out.2 HK0.out HF0.out,rfl,?_⟩)
    exact (((((((((HMC.out.set 0 _).set 1 _).set 2 _).set 3 _).set 4 _).set 5 _).set 6 _).set 7 _).set 8 _).to
   ·obtain ⟨rfl,rfl,rfl,hnn,hnK,hfn⟩:=hok1 rfl
    have HNK:=Lib.hid hnK
    have HFN:=Lib.hid hfn
    have HNN:=Lib.hid hnn
    have hnI:(nn:Int)≤120:=by have:=fitK_in s (a:Int) N room (by omega);omega
    have hsumI:(a:Int)+(nn:Int)≤s.u:=by have:=fitK_in s (a:Int) N room (by omega);have:=HYU.out;omega
    have HSI:=Lib.hid hsumI
    clear hok0 hok1 hnK hfn hsumI
    go_upto_region 9 with (fail)
    refine still_tail 11 (by kernel_rfl) (by kernel_rfl) ?_
    intro wz hwz
    have hwz2:wz=wc.drewN 1:=hwz
    have HMZ:=Lib.hid (HMC.out.drewN 1)
    have HFZ:Hid (FrB (wc.drewN 1) gx 3 s.id (a:Int) 0 0 0 fin A5 nn c5 none 0 0):=HF5.out
    have HXZ:Hid ((wc.drewN 1).heap[bx]?=some (.cells #[.int .i64 (a:Int),.int .i64 y] 88 (0,0))):=HXB.out
    have HGZ:Hid ((wc.drewN 1).heap[g]?=some (.cells #[.int .i64 0,.int .i64 0,.int .i64 0,.int .i64 0,.int .i64 0,.int .i64 0,.bool false,.slice none 0 0,.slice none 0 0] 54 (0,0))):=HG5.out
    have HOZ:Hid ((wc.drewN 1).ownsRow w2.heap.size 5 1 (.slice A5 nn c5) nn (bv ((s.bs.drop a).take nn))):=HO5.out
    rw [← hwz2] at HMZ HFZ HXZ HGZ HOZ
    clear hwz hwz2 HMC HF5 HXB HG5 HO5
    have x0:=cell_slot (o:=0) HXZ.out rfl
    obtain ⟨y0,y1,y2,y3,y4,y5,y6,y7,y8⟩:=HFZ.out.cells
    simp only [List.take_succ_cons,List.take_zero,List.drop_succ_cons,List.drop_zero]
    iterate 11 still_step
    refine wpStill_nil ?_
    go_wp2_with fail
    refine (rlost_drop HMZ.out.st (by have:=HLN.out;omega) (a:Int) ((a:Int)+(nn:Int))).mono ?_
    rintro e w4 ⟨rfl,hs4⟩
    have HFP:Hid (gx≠p):=fun e=>by have h1:=HGX.out;have h2:=HM.out.st.hG p HM.out.st.pG;have h3:=HB2.out.size;omega
    have hk4:Kept [p] wz w4:=by obtain ⟨_,_,_,_,_,hk,_⟩:=hs4;exact hk
    have HF4:Hid (FrB w4 gx 3 s.id (a:Int) 0 0 0 fin A5 nn c5 none 0 0):=(hk4.block gx (lt_of_block HFZ.out) (by simp;exact HFP.out)).trans HFZ.out
    have HOP:Hid (∀ q ∈ fp (.slice A5 nn c5),q≠p):=fun q hq e=>by have h1:=(HOZ.out.lt q (fp_own.1 hq)).1;have h2:=HM.out.st.hG p HM.out.st.pG;have h3:=HB2.out.size;omega
    have HO4:Hid (w4.ownsRow w2.heap.size 5 1 (.slice A5 nn c5) nn (bv ((s.bs.drop a).take nn))):=own_kept HOZ.out hk4 (fun q hq=>by simpa using HOP.out q hq)
    obtain ⟨⟨G4,a4,b4,c4,hm4⟩,hg4⟩:=HMZ.out.then (lt_of_block HGZ.out) hs4
    have HM4:=Lib.hid hm4
    have HG4:Hid (w4.heap[g]?=some (.cells #[.int .i64 0,.int .i64 0,.int .i64 0,.int .i64 0,.int .i64 0,.int .i64 0,.bool false,.slice none 0 0,.slice none 0 0] 54 (0,0))):=hg4.trans HGZ.out
    clear hs4 hm4 hg4 hk4 HMZ HFZ HXZ HGZ HOZ x0 y0 y1 y2 y3 y4 y5 y6 y7 y8
    obtain ⟨y0,y1,y2,y3,y4,y5,y6,y7,y8⟩:=HF4.out.cells
    go_upto_region 10 with (fail)
    have HTO:=Lib.hid (rtold_st HM4.out.st HOK.out.fin fin)
    go_wp2_with fail
    refine HTO.out.mono ?_
    rintro e w5 ⟨rfl,hs5⟩
    have hk5:Kept [p] w4 w5:=by obtain ⟨_,_,_,_,_,hk,_⟩:=hs5;exact hk
    have HF5:Hid (FrB w5 gx 3 s.id (a:Int) 0 0 0 fin A5 nn c5 none 0 0):=(hk5.block gx (lt_of_block HF4.out) (by simp;exact HFP.out)).trans HF4.out
    have HO5:Hid (w5.ownsRow w2.heap.size 5 1 (.slice A5 nn c5) nn (bv ((s.bs.drop a).take nn))):=own_kept HO4.out hk5 (fun q hq=>by simpa using HOP.out q hq)
    obtain ⟨⟨G5,a5,b5,c5',hm5⟩,hg5⟩:=HM4.out.then (lt_of_block HG4.out) hs5
    have HM5:=Lib.hid hm5
    have HG5:Hid (w5.heap[g]?=some (.cells #[.int .i64 0,.int .i64 0,.int .i64 0,.int .i64 0,.int .i64 0,.int .i64 0,.bool false,.slice none 0 0,.slice none 0 0] 54 (0,0))):=hg5.trans HG4.out
    clear hs5 hm5 hg5 hk5 HM4 HF4 HG4 HO4 HTO y0 y1 y2 y3 y4 y5 y6 y7 y8
    obtain ⟨y0,y1,y2,y3,y4,y5,y6,y7,y8⟩:=HF5.out.cells
    have z0:=cell_slot (o:=0) HG5.out rfl
    have f0:=free_slot (o:=0) HG5.out
    have z1:=cell_slot (o:=1) HG5.out rfl
    have f1:=free_slot (o:=1) HG5.out
    have z2:=cell_slot (o:=2) HG5.out rfl
    have f2:=free_slot (o:=2) HG5.out
    have z3:=cell_slot (o:=3) HG5.out rfl
    have f3:=free_slot (o:=3) HG5.out
    have z4:=cell_slot (o:=4) HG5.out rfl
    have f4:=free_slot (o:=4) HG5.out
    have z5:=cell_slot (o:=5) HG5.out rfl
    have f5:=free_slot (o:=5) HG5.out
    have z6:=cell_slot (o:=6) HG5.out rfl
    have f6:=free_slot (o:=6) HG5.out
    have z7:=cell_slot (o:=7) HG5.out rfl
    have f7:=free_slot (o:=7) HG5.out
    have z8:=cell_slot (o:=8) HG5.out rfl
    have f8:=free_slot (o:=8) HG5.out
    go_wp2_with fail
    refine ret_three rfl _ _ g 54 _ _ _ _ _ _ _ _ _ _ _ _ rfl rfl rfl (nine_heap HG5.out _ _ _ _ _ _ _ _ _) Try.underlying54 rfl (by kernel_rfl) ?_
    have HNI:NextI s room most (a:Int) (nn:Int) fin 0:=by
     have:=next_K HD.out.1 HD.out.2 (by rw [← HNK.out];have:=HNN.out;omega)
     rw [← HNK.out,← HFN.out,show max ((a:Int)+(nn:Int) - s.u) 0=0 by have:=HSI.out;omega] at this
     exact this
    refine HQ.out _ _ (.inr ⟨a,nn,fin,0,A5,c5,HNI,rfl,?_,?_⟩)
    ·have HPS:putS s (a:Int) (nn:Int) fin 0=⟨s.l,s.u,s.id,s.bs,turn s.lost (a:Int) ((a:Int)+(nn:Int)) false,s.came,s.fd,if fin=true then tellN s.fin else s.fin,s.rs,s.code,s.sure,s.br⟩:=by unfold putS;rw [Int.add_zero]
     rw [HPS]
     exact (((((((((HM5.out.set 0 _).set 1 _).set 2 _).set 3 _).set 4 _).set 5 _).set 6 _).set 7 _).set 8 _).to
    ·have hog:∀ q ∈ fp (.slice A5 nn c5),q≠g:=fun q hq e=>by
      have h1:=(HO5.out.lt q (fp_own.1 hq)).1
      have h2:=lt_of_block HG.out
      have h3:=HB2.out.size
      omega
     exact rd_own1 (nine_own HO5.out hog _ _ _ _ _ _ _ _ _)
end
end Go.Proofs.Ytoahkffdoaphlaa.Se
