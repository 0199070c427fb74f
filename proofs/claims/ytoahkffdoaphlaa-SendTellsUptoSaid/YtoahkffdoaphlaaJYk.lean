/- Joined texts. Conditions: as each theorem lists them. -/
import Derived.Test.YtoahkffdoaphlaaJYh
import Derived.Test.YtoahkffdoaphlaaJKc
import Derived.Test.YtoahkffdoaphlaaJWk
import Derived.Test.YtoahkffdoaphlaaJYj
import Derived.Test.YtoahkffdoaphlaaJLc
import Derived.Test.YtoahkffdoaphlaaJSnKn
set_option linter.unusedSimpArgs false
set_option linter.unusedVariables false
set_option maxRecDepth 100000
set_option maxHeartbeats 80000000
namespace Go.Proofs.Ytoahkffdoaphlaa.Se
open Go Go.RowKit Go.Proofs.Ytoahkffdoaphlaa Go.Proofs.Ytoahkffdoaphlaa.Sp Go.Proofs.Ytoahkffdoaphlaa.Sp.Ref
/-- A block of memory that both streams and the row of frames leave as it is. -/
structure Off (W:World) (g:Nat) (F G:List Nat) (v:Value) (o:Obj):Prop where
 hp:W.heap[g]?=some o
 hF:g ∉ F
 hG:g ∉ G
 hv:g ∉ fp v
theorem Off.below {W W':World} {g:Nat} {F G:List Nat} {v:Value} {o:Obj} (h:Off W g F G v o) (hb:Below W.heap.size W W'):Off W' g F G v o:=⟨(hb.block g (lt_of_block h.hp)).trans h.hp,h.hF,h.hG,h.hv⟩
section
variable {w wr w':World} {p q j:Nat} {v:Value} {F:List Nat} {v3 v4 v5:Value} {G:List Nat} {u1 u8 u9:Value} {s s' r r':St} {l:List Fv}
theorem SendI.goP (h:SendI w wr p q j v F v3 v4 v5 G u1 u8 u9 s r l) (ht:StTo wr w' p F s'):∃ F' a b c,SendI w w' p q j v F' a b c G u1 u8 u9 s' r l∧∀ g o,Off wr g F G v o→Off w' g F' G v o:=by
 obtain ⟨F',a,b,c,g1,g2,g3,g4,g5⟩:=ht.rest h.lo h.low.size
 refine ⟨F',a,b,c,⟨g1,h.rf.kept g2 fun k hk hm=>h.dis k hm hk,fun k hk hm=>?_,h.row.kept g2 g3,h.rowG,h.len,h.low.trans g5,g4,h.loG⟩,fun g o hx=>⟨(g2.block g (lt_of_block hx.hp) hx.hF).trans hx.hp,fun hm=>(g3 g hm).elim hx.hF (fun hy=>by have:=lt_of_block hx.hp;omega),hx.hG,hx.hv⟩⟩
 rcases g3 k hk with hx | hx
 ·exact h.dis k hx hm
 ·have:=h.rf.hG k hm;omega
theorem SendI.goR (h:SendI w wr p q j v F v3 v4 v5 G u1 u8 u9 s r l) (ht:RTo wr w' q G r'):∃ G' a b c,SendI w w' p q j v F v3 v4 v5 G' a b c s r' l∧∀ g o,Off wr g F G v o→Off w' g F G' v o:=by
 obtain ⟨G',a,b,c,g1,g2,g3⟩:=ht
 have hqF:q ∉ F:=fun hm=>h.dis q hm h.rf.pG
 have hqv:q ∉ fp v:=fun hm=>h.rowG q hm h.rf.pG
 refine ⟨G',a,b,c,⟨h.st.kept g2 (fun k hk hm=>by simp at hm;exact hqF (hm ▸ hk)),g1,fun k hk hm=>?_,⟨own_kept h.row.1 g2 (fun k hk hm=>by simp at hm;exact hqv (hm ▸ hk)),h.row.2.1,h.row.2.2⟩,fun k hk hm=>?_,h.len,h.low.trans (g2.below h.low.size (fun k hk=>by simp at hk;exact hk ▸ h.loG q h.rf.pG)),h.lo,fun k hk=>?_⟩,fun g o hx=>⟨(g2.block g (lt_of_block hx.hp) (fun hm=>by simp at hm;exact hx.hG (hm ▸ h.rf.pG))).trans hx.hp,hx.hF,fun hm=>(g3 g hm).elim hx.hG (fun hy=>by have:=lt_of_block hx.hp;omega),hx.hv⟩⟩
 ·rcases g3 k hm with hx | hx
  ·exact h.dis k hk hx
  ·have:=h.st.hF k hk;omega
 ·rcases g3 k hm with hx | hx
  ·exact h.rowG k hk hx
  ·have:=(h.row.1.lt k (fp_own.1 hk)).2;omega
 ·rcases g3 k hk with hx | hx
  ·exact h.loG k hx
  ·exact Nat.le_trans h.low.size hx
theorem SendI.laid (h:SendI w wr p q j v F v3 v4 v5 G u1 u8 u9 s r l) (o:Obj):SendI w (wr.alloc o) p q j v F v3 v4 v5 G u1 u8 u9 s r l∧Off (wr.alloc o) wr.heap.size F G v o :=
 ⟨h.below ((Below.refl _ _).alloc (Nat.le_refl _) _),⟨heap_alloc_new wr _,fun hm=>by have:=h.st.hF _ hm;omega,fun hm=>by have:=h.rf.hG _ hm;omega,fun hm=>by have:=(h.row.1.lt _ (fp_own.1 hm)).2;omega⟩⟩
theorem SendI.far (h:SendI w wr p q j v F v3 v4 v5 G u1 u8 u9 s r l) (hb:Below wr.heap.size wr w') {g:Nat} {o:Obj} (hg:wr.heap.size≤g) (hx:w'.heap[g]?=some o):Off w' g F G v o :=
 ⟨hx,fun hm=>by have:=h.st.hF _ hm;omega,fun hm=>by have:=h.rf.hG _ hm;omega,fun hm=>by have:=(h.row.1.lt _ (fp_own.1 hm)).2;omega⟩
end
theorem next_same {s:St} {room most:Int} {a n:Nat} {fin:Bool} {fresh:Int} {w w':World} {q:Nat} {G:List Nat} {e:Ending} (hN:NextI s room most a n fin fresh) (h:RNextP s room most w q G e w') :
  ∃ A c,e=.returned (.tuple #[.agg #[.int .i64 3,.int .i64 s.id,.int .i64 (a:Int),.int .i64 0,.int .i64 0,.int .i64 0,.bool fin,.slice A n c,.slice none 0 0],.int .i64 fresh,.bool true])∧RTo w w' q G (putS s a n fin fresh)∧Rd w' w'.heap.size A n (bv ((s.bs.drop a).take n)):=by
 rcases h with ⟨g1,_⟩ | ⟨a',n',fin',fresh',A',c',g1,g2,g3,g4⟩
 ·rw [next_of hN] at g1;cases g1
 ·have e1:=next_of hN
  rw [next_of g1] at e1
  have e2:=congrArg (fun o=>o.map (·.1)) e1
  simp only [Option.map_some,Option.some.injEq] at e2
  have ha:(a':Int)=(a:Int):=congrArg Fd.off e2
  have hn:(n':Int)=(n:Int):=congrArg Fd.n e2
  have hf:fin'=fin:=congrArg Fd.fin e2
  have hr:fresh'=fresh:=congrArg Fd.fresh e2
  obtain rfl:a'=a:=by omega
  obtain rfl:n'=n:=by omega
  subst hf hr
  exact ⟨A',c',g2,g3,g4⟩
theorem next_not {s:St} {room most:Int} {w w':World} {q:Nat} {G:List Nat} {e:Ending} (hN:nextS s room most=none) (h:RNextP s room most w q G e w') :
  e=.returned (.tuple #[.agg #[.int .i64 0,.int .i64 0,.int .i64 0,.int .i64 0,.int .i64 0,.int .i64 0,.bool false,.slice none 0 0,.slice none 0 0],.int .i64 0,.bool false])∧RTo w w' q G s:=by
 rcases h with ⟨_,g2,g3⟩ | ⟨a',n',fin',fresh',A',c',g1,_⟩
 ·exact ⟨g2,g3⟩
 ·rw [next_of g1] at hN;cases hN
theorem raise_eq (s:St) (z:Int):(⟨if Cr.raiseB s.l z=true then z else s.l,s.u,s.id,s.bs,s.lost,s.came,s.fd,s.fin,s.rs,s.code,s.sure,s.br⟩:St)=raiseS s z:=by unfold raiseS Cr.raiseB;simp only [decide_eq_true_eq]
theorem reset_id (s:St) (a b:Int):(resetS s a b).2.id=s.id:=by unfold resetS;repeat (first | rfl | split)
theorem turn_id {s s':St} (h:turnS s=some s'):s'.id=s.id:=by unfold turnS at h;split at h <;> cases h;rfl
theorem write_id (s:St) (b:List Nat):(writeS s b).2.id=s.id:=by unfold writeS;repeat (first | rfl | split)
theorem finish_id (s:St):(finishS s).2.id=s.id:=by unfold finishS;repeat (first | rfl | split)
theorem ack_id (s:St) (f:Fk):(ackS s f).id=s.id:=by unfold ackS;rfl
theorem lost_id (s:St) (f:Fk):(lostS s f).id=s.id:=by unfold lostS;rfl
theorem zeroes (n:Nat):(madeCells #[Value.int .u8 0] n).toList=bv (List.replicate n 0):=by
 refine List.ext_getElem (by simp [madeCells,bv]) fun k h1 h2=>?_
 simp [madeCells,bv,Nat.mod_one]
/-- What SendTells holds at each call. -/
def TellJ (w wr:World) (p q:Nat) (id:Int) (j:Nat) (v:Value):Prop:=∃ F v3 v4 v5 G u1 u8 u9 s l,SendI w wr p q j v F v3 v4 v5 G u1 u8 u9 s s l∧StOk s∧s.id=id
theorem tells_walk (a0:Int) (A:Option Addr) (N cap:Nat) (rs:List Rc) (w:World) (hr:CallsIn w A cap N rs) (hN:N≤1048576) :
  Calls Try.prog 3 #[.int .i64 a0,.slice A N cap] w fun e w'=>e=.returned (.bool true)∧Below w.heap.size w w':=by
 have HR:=Lib.hid hr
 have hnI:(N:Int)≤1048576:=by omega
 have hncI:(N:Int)≤(cap:Int):=by have:=hr.le;omega
 clear hr
 obtain ⟨id,hid⟩:∃ x,a0 % 100=x:=⟨_,rfl⟩
 have hid0:0≤id∧id<100:=by omega
 have HP0:=Lib.hid (fun W=>pick_any a0 100 W (by decide) (by decide))
 rw [hid] at HP0
 clear hid
 obtain ⟨hid1,hid2⟩:=hid0
 have HNEW:=Lib.hid (fun W=>new_st W id)
 have HNER:=Lib.hid (fun W=>rnew_st W id)
 have HKN:=Lib.hid SnKn.known_any
 go_enter Try.func3,Try.ntmps3
 go_wp2_with fail
 refine (HP0.out _).mono ?_;rintro e w' ⟨rfl,hw'⟩;subst hw'
 go_wp2_with fail
 refine (HNEW.out _).mono ?_
 rintro e w1 ⟨p,F1,a1,b1,c1,rfl,hs1,hF1,hb1⟩
 have HS1:=Lib.hid hs1
 have HB1:=Lib.hid hb1
 have HF1:=Lib.hid hF1
 clear hs1 hb1 hF1
 go_wp2_with fail
 refine (HNER.out _).mono ?_
 rintro e w2 ⟨q,G1,d1,e1,f1,rfl,hr1,hG1,hb2⟩
 have HI2:Hid (SendI w w2 p q 0 (.slice none 0 0) F1 a1 b1 c1 G1 d1 e1 f1 (newS id) (newS id) []) :=
  ⟨HS1.out.below hb2,hr1,(fun k hk hm=>by have:=HS1.out.hF k hk;have:=hG1 k hm;omega),⟨own_nil _ _ _ _,(fun k hk=>by simp [fp] at hk),(fun f hf=>by cases hf)⟩,(fun k hk=>by simp [fp] at hk),Nat.le_refl _,HB1.out.trans (hb2.mono HB1.out.size),HF1.out,fun k hk=>Nat.le_trans HB1.out.size (hG1 k hk)⟩
 clear hr1 hG1 hb2 HS1 HB1 HF1
 go_wp2_with fail
 refine (HKN.out w2).mono ?_
 rintro e w3 ⟨rfl,hb3⟩
 have HJ3:Hid (TellJ w w3 p q id 0 (.slice none 0 0)):=⟨_,_,_,_,_,_,_,_,_,_,HI2.out.below hb3,newS_ok id ⟨hid1,by omega⟩,rfl⟩
 clear hb3 HI2
 go_wp2_with fail
 go_loopw [7,40] (fun v i wr=>∃ (j:Nat),j≤N∧i=.int .i64 (j:Int)∧Hid (TellJ w wr p q id j v)) (fun _ i _=>N - (intOf i).toNat)
 case atStart=>exact ⟨0,Nat.zero_le _,rfl,HJ3⟩
 case round =>
  clear HJ3
  obtain ⟨j,hj,rfl,HK⟩:=hrel
  by_cases hlt:j<N
  case neg =>
   have hlti:¬ (j:Int)<(N:Int):=by omega
   obtain ⟨F,v3,v4,v5,G,u1,u8,u9,s,l,hI,hok,hsi⟩:=HK.out
   have HB:=Lib.hid hI.low
   clear hI HK hok hsi
   go_wp2_with fail
   go_ret
   exact ⟨rfl,HB.out⟩
  case pos =>
   have hlti:(j:Int)<(N:Int):=by omega
   obtain ⟨F,v3,v4,v5,G,u1,u8,u9,s,l,hI,hok,hsi⟩:=HK.out
   obtain ⟨Av,cv,ev,_⟩:=own_form hI.row.1
   obtain ⟨m,hm⟩:∃ m,l.length=m:=⟨_,rfl⟩
   rw [hm] at ev
   subst ev
   have hmN:(m:Int)≤1048576:=by have:=hI.len;omega
   obtain ⟨b,o,hA,hbw,hcs⟩:=HR.out.rd (by omega)
   subst hA
   obtain ⟨x,hx⟩:∃ x,rs[j]?=some x:=⟨_,List.getElem?_eq_getElem (by rw [HR.out.len];omega)⟩
   obtain ⟨hxo,hxc⟩:=hcs j x hx
   have hlow:∀ jj,wr.cell? ⟨b,o+j * 5+jj,none⟩=w.cell? ⟨b,o+j * 5+jj,none⟩:=fun jj=>hI.low.cell (p:=⟨b,o+j * 5+jj,none⟩) hbw
   have HX4:Hid (RcOk w x):=hxo
   obtain ⟨x0,x1,x2,x3,A4,x4,c4⟩:=x
   have z0:wr.cell? ⟨b,o+j * 5,none⟩=some (.int .i64 x0):=(hlow 0).trans (hxc 0 _ rfl)
   have z1:wr.cell? ⟨b,o+j * 5+1,none⟩=some (.int .i64 x1):=(hlow 1).trans (hxc 1 _ rfl)
   have z2:wr.cell? ⟨b,o+j * 5+2,none⟩=some (.int .i64 x2):=(hlow 2).trans (hxc 2 _ rfl)
   have z3:wr.cell? ⟨b,o+j * 5+3,none⟩=some (.int .i64 x3):=(hlow 3).trans (hxc 3 _ rfl)
   have z4:wr.cell? ⟨b,o+j * 5+4,none⟩=some (.slice A4 x4.length c4):=(hlow 4).trans (hxc 4 _ rfl)
   have nz0:=World.new_ne wr _ z0
   have HI:=Lib.hid hI
   have HM:=Lib.hid hm
   have HOK:=Lib.hid hok
   have HSI:=Lib.hid hsi
   clear hI HK hcs hx hxo hxc hlow hm hok hsi
   go_upto_region 10 with (fail)
   obtain ⟨w1,hw1⟩:∃ x,wr.alloc (.cells #[.int .i64 x0,.int .i64 x1,.int .i64 x2,.int .i64 x3,.slice A4 x4.length c4] 32)=x:=⟨_,rfl⟩
   obtain ⟨g,hg⟩:∃ g,wr.heap.size=g:=⟨_,rfl⟩
   have HI1:Hid (SendI w w1 p q j (.slice Av m cv) F v3 v4 v5 G u1 u8 u9 s s l):=by rw [← hw1];exact HI.out.below ((Below.refl _ _).alloc (Nat.le_refl _) _)
   have HX1:Hid (w1.heap[g]?=some (.cells #[.int .i64 x0,.int .i64 x1,.int .i64 x2,.int .i64 x3,.slice A4 x4.length c4] 32 (0,0))):=by rw [← hw1,← hg];exact heap_alloc_new wr _
   have HGF:Hid (g ∉ F∧g ∉ G):=⟨fun hm=>by have:=HI.out.st.hF g hm;omega,fun hm=>by have:=HI.out.rf.hG g hm;omega⟩
   have HGV:Hid (g ∉ fp (.slice Av m cv)):=fun hm=>by have:=(HI.out.row.1.lt g (fp_own.1 hm)).2;omega
   rw [hw1,hg]
   clear hw1 hg nz0 z0 z1 z2 z3 z4 HI
   have HO1:Hid (Off w1 g F G (.slice Av m cv) (.cells #[.int .i64 x0,.int .i64 x1,.int .i64 x2,.int .i64 x3,.slice A4 x4.length c4] 32 (0,0))):=⟨HX1.out,HGF.out.1,HGF.out.2,HGV.out⟩
   clear HX1 HGF HGV
   have g0:=cell_slot (o:=0) HO1.out.hp rfl
   have HP16:=Lib.hid (fun W=>pick_any x0 16 W (by decide) (by decide))
   have hp16:0≤x0 % 16∧x0 % 16<16:=by omega
   obtain ⟨k,hk⟩:∃ k,x0 % 16=k:=⟨_,rfl⟩
   rw [hk] at HP16 hp16
   clear hk
   go_wp2_with fail
   refine (HP16.out _).mono ?_;rintro e w' ⟨rfl,hw'⟩;subst hw'
   clear HP16 g0
   go_upto_block 2 with (fail)
   go_cut [7,10,11,12,13,14,15,16,17,18,19,20,21,22,23,24,25] (fun v7 v10 v11 v12 v13 v14 v15 v16 v17 v18 v19 v20 v21 v22 v23 v24 v25 wx=>Hid (TellJ w wx p q id (j+1) v7))
   case first =>
    by_cases h0:k=0
    ·subst h0
     clear hp16
     as_aux_lemma =>
      have g1:=cell_slot (o:=1) HO1.out.hp rfl
      have g2:=cell_slot (o:=2) HO1.out.hp rfl
      have g4:=cell_slot (o:=4) HO1.out.hp rfl
      obtain ⟨n,hn,hn9⟩:∃ z:Nat,x1 % 200=(z:Int)∧z<200:=⟨(x1 % 200).toNat,by omega,by omega⟩
      have HP1:Hid (∀ W,Calls Try.prog 5 #[.int .i64 x1,.int .i64 200] W fun e w'=>e=.returned (.int .i64 (n:Int))∧w'=W):=fun W=>by
       rw [← hn];exact (pick_any x1 200 W (by decide) (by decide)).mono fun _ _ h=>⟨h.1,h.2.symm⟩
      clear hn
      have HP2:=Lib.hid (fun W=>pick_any x2 40 W (by decide) (by decide))
      obtain ⟨q40,hq40⟩:∃ z,x2 % 40=z:=⟨_,rfl⟩
      rw [hq40] at HP2
      clear hq40
      go_upto_region 21 with (fail)
      refine still_tail 5 (by kernel_rfl) (by kernel_rfl) ?_
      intro wz hwz
      have hwz2:wz=w1.drewN 1:=hwz
      have HIz:=HI1.out.below (below_nq (Below.refl _ _) 1)
      have HOz:=HO1.out.below (below_nq (Below.refl _ _) 1)
      rw [← hwz2] at HIz HOz
      have HI2:=Lib.hid HIz
      have HO2:=Lib.hid HOz
      have HRX:Hid (Rd wz wz.heap.size A4 x4.length (bv x4)):=(HX4.out.r4.below HI2.out.low (Nat.le_refl _)).more HI2.out.low.size
      clear hwz hwz2 HIz HOz g1 g2 g4
      have g1:=cell_slot (o:=1) HO2.out.hp rfl
      have g4:=cell_slot (o:=4) HO2.out.hp rfl
      simp only [List.take_succ_cons,List.take_zero,List.drop_succ_cons,List.drop_zero]
      iterate 4 still_step
      still_call (HP1.out _)
      refine wpStill_nil ?_
      have HTX:=Lib.hid (text_any x4 A4 c4 n wz HRX.out (by omega) HX4.out.l4 HX4.out.u4)
      go_wp2_with fail
      refine HTX.out.mono ?_
      rintro e w3 ⟨A3,c3,rfl,out,ho1,ho2,ho3,ho4⟩
      have HI3:=Lib.hid (HI2.out.below ho4)
      have HO3:=Lib.hid (HO2.out.below ho4)
      obtain ⟨_,_,e3,_,_,_,hrd3⟩:=own_form ho3
      simp only [Value.slice.injEq] at e3
      obtain ⟨rfl,_,rfl⟩:=e3
      rw [Nat.mul_one] at hrd3
      subst ho1
      have HRB:=Lib.hid hrd3
      have HFB:Hid (∀ k ∈ fp (.slice A3 out.length c3),wz.heap.size≤k):=fun k hk=>(ho3.lt k (fp_own.1 hk)).1
      have HLT:=Lib.hid ho2
      clear ho2 ho3 ho4 hrd3 HTX g1 g4
      have g2:=cell_slot (o:=2) HO3.out.hp rfl
      go_upto_region 22 with (fail)
      go_wp2_with fail
      refine (HP2.out _).mono ?_;rintro e w' ⟨rfl,hw'⟩;subst hw'
      by_cases h39:q40=39
      ·subst h39
       clear HRB HFB HLT g2
       obtain ⟨i0,hi,hz0,hz1,hz2⟩:=info_parts infoB
       obtain ⟨zo,hout⟩:∃ z:List Nat,List.replicate 3990 0=z:=⟨_,rfl⟩
       have hlen:zo.length=3990:=by rw [← hout,List.length_replicate]
       have hmk:=fun W=>run_make (P:=Try.prog) W 30 5 i0 (.int .u8 0) Try.underlying30 hi hz0 .i64 .i64 3990 3990 (by omega) (by omega) (by rw [hz2];omega) (by omega)
       simp only [hz1,Nat.mul_one,show (3990:Int).toNat=3990 from rfl] at hmk
       have hmz:(madeCells (Value.int .u8 0).cells 3990).toList=bv zo:=by rw [← hout];exact zeroes 3990
       obtain ⟨zc,hzc⟩:∃ x,madeCells (Value.int .u8 0).cells 3990=x:=⟨_,rfl⟩
       rw [hzc] at hmk hmz
       have hzs:zc.size=3990:=by rw [← hzc];exact size_madeCells _ _
       have HLT:Hid (∀ c ∈ zo,c<256):=fun c hc=>by rw [← hout] at hc;have:=List.eq_of_mem_replicate hc;omega
       clear hzc hout hi hz0 hz1 hz2
       go_upto_region 24 with (fail)
       obtain ⟨w6,hw6⟩:∃ z,w3.alloc (.cells zc 5)=z:=⟨_,rfl⟩
       obtain ⟨gz,hgz⟩:∃ z,w3.heap.size=z:=⟨_,rfl⟩
       have HI6:Hid (SendI w w6 p q j (.slice Av m cv) F v3 v4 v5 G u1 u8 u9 s s l):=by rw [← hw6];exact HI3.out.below ((Below.refl _ _).alloc (Nat.le_refl _) _)
       have HO6:Hid (Off w6 g F G (.slice Av m cv) (.cells #[.int .i64 x0,.int .i64 x1,.int .i64 x2,.int .i64 x3,.slice A4 x4.length c4] 32 (0,0))):=by rw [← hw6];exact HO3.out.below ((Below.refl _ _).alloc (Nat.le_refl _) _)
       have HRB:Hid (Rd w6 w6.heap.size (some ⟨gz,0,none⟩) zo.length (bv zo)):=by rw [← hw6,← hgz,hlen];exact rd_new _ _ _ _ _ _ _ rfl (by simp) (by rw [hzs]) hmz
       have HOU:Hid (0<zo.length→∀ a,(some ⟨gz,0,none⟩:Option Addr)=some a→a.block ∉ F):=fun _ a ea hm=>by
        cases ea
        have h2:gz<w3.heap.size:=HI3.out.st.hF _ hm
        exact Nat.lt_irrefl _ (hgz ▸ h2)
       rw [hw6,hgz]
       rw [show (3990:Nat)=zo.length from hlen.symm]
       have HLZ:=Lib.hid hlen
       clear hlen
       clear hw6 hgz hmk hmz HI3 HO3 HI2 HO2 hzs
       obtain ⟨rz,hrz⟩:∃ z,(writeS s zo).1=z:=⟨_,rfl⟩
       have HWR:=Lib.hid (write_st HI6.out.st HOK.out.n zo w6.heap.size (some ⟨gz,0,none⟩) zo.length HRB.out (by have:=HLZ.out;omega))
       rw [hrz] at HWR
       go_wp2_with fail
       refine HWR.out.mono ?_
       rintro e w4 ⟨rfl,hs4⟩
       have hk4:Kept F w6 w4:=by obtain ⟨_,_,_,_,_,hk,_⟩:=hs4;exact hk
       have HRB4:=Lib.hid (rd_kept HRB.out hk4 HOU.out)
       obtain ⟨F4,a4,b4,c4,hI4,hO4⟩:=HI6.out.goP hs4
       have HI4:=Lib.hid hI4
       have HO4:=Lib.hid (hO4 _ _ HO6.out)
       clear hI4 hO4
       clear hs4 hk4 HWR
       have HRW:=Lib.hid (rwrite_st HI4.out.rf HOK.out.n zo w4.heap.size (some ⟨gz,0,none⟩) zo.length HRB4.out (Nat.le_refl _) (by have:=HLZ.out;omega))
       rw [hrz] at HRW
       go_wp2_with fail
       refine HRW.out.mono ?_
       rintro e w5 ⟨rfl,hs5⟩
       obtain ⟨G5,d5,e5,f5,hI5,hO5⟩:=HI4.out.goR hs5
       have HI5:=Lib.hid hI5
       have HO5:=Lib.hid (hO5 _ _ HO4.out)
       clear hI5 hO5
       clear hs5 HRW
       have HJ:Hid (TellJ w _ p q id (j+1) _):=⟨_,_,_,_,_,_,_,_,_,_,HI5.out.succ,HOK.out.write _ HLT.out,((write_id _ _).trans HSI.out)⟩
       go_wp2_with fail
       go_meet
       exact HJ
      ·have h39b:(q40 == 39)=false:=by simpa using h39
       clear h39 g2
       have HOU:Hid (0<out.length→∀ a,A3=some a→a.block ∉ F):=fun _ a ea hm=>by
        have h1:=HFB.out a.block (by rw [ea];simp [fp])
        have h2:=HI2.out.st.hF _ hm
        omega
       obtain ⟨rz,hrz⟩:∃ z,(writeS s out).1=z:=⟨_,rfl⟩
       have HWR:=Lib.hid (write_st HI3.out.st HOK.out.n out w3.heap.size A3 c3 HRB.out (by omega))
       rw [hrz] at HWR
       go_wp2_with fail
       refine HWR.out.mono ?_
       rintro e w4 ⟨rfl,hs4⟩
       have hk4:Kept F w3 w4:=by obtain ⟨_,_,_,_,_,hk,_⟩:=hs4;exact hk
       have HRB4:=Lib.hid (rd_kept HRB.out hk4 HOU.out)
       obtain ⟨F4,a4,b4,c4,hI4,hO4⟩:=HI3.out.goP hs4
       have HI4:=Lib.hid hI4
       have HO4:=Lib.hid (hO4 _ _ HO3.out)
       clear hI4 hO4
       clear hs4 hk4 HWR
       have HRW:=Lib.hid (rwrite_st HI4.out.rf HOK.out.n out w4.heap.size A3 c3 HRB4.out (Nat.le_refl _) (by omega))
       rw [hrz] at HRW
       go_wp2_with fail
       refine HRW.out.mono ?_
       rintro e w5 ⟨rfl,hs5⟩
       obtain ⟨G5,d5,e5,f5,hI5,hO5⟩:=HI4.out.goR hs5
       have HI5:=Lib.hid hI5
       have HO5:=Lib.hid (hO5 _ _ HO4.out)
       clear hI5 hO5
       clear hs5 HRW
       have HJ:Hid (TellJ w _ p q id (j+1) _):=⟨_,_,_,_,_,_,_,_,_,_,HI5.out.succ,HOK.out.write _ HLT.out,((write_id _ _).trans HSI.out)⟩
       go_wp2_with fail
       go_meet
       exact HJ
    have h0b:(k == 0)=false:=by simpa using h0
    clear h0
    by_cases h1:k=1
    ·subst h1
     clear hp16
     as_aux_lemma =>
      have g1:=cell_slot (o:=1) HO1.out.hp rfl
      have g2:=cell_slot (o:=2) HO1.out.hp rfl
      have g4:=cell_slot (o:=4) HO1.out.hp rfl
      obtain ⟨n,hn,hn9⟩:∃ z:Nat,x1 % 200=(z:Int)∧z<200:=⟨(x1 % 200).toNat,by omega,by omega⟩
      have HP1:Hid (∀ W,Calls Try.prog 5 #[.int .i64 x1,.int .i64 200] W fun e w'=>e=.returned (.int .i64 (n:Int))∧w'=W):=fun W=>by
       rw [← hn];exact (pick_any x1 200 W (by decide) (by decide)).mono fun _ _ h=>⟨h.1,h.2.symm⟩
      clear hn
      have HP2:=Lib.hid (fun W=>pick_any x2 40 W (by decide) (by decide))
      obtain ⟨q40,hq40⟩:∃ z,x2 % 40=z:=⟨_,rfl⟩
      rw [hq40] at HP2
      clear hq40
      go_upto_region 21 with (fail)
      refine still_tail 5 (by kernel_rfl) (by kernel_rfl) ?_
      intro wz hwz
      have hwz2:wz=w1.drewN 1:=hwz
      have HIz:=HI1.out.below (below_nq (Below.refl _ _) 1)
      have HOz:=HO1.out.below (below_nq (Below.refl _ _) 1)
      rw [← hwz2] at HIz HOz
      have HI2:=Lib.hid HIz
      have HO2:=Lib.hid HOz
      have HRX:Hid (Rd wz wz.heap.size A4 x4.length (bv x4)):=(HX4.out.r4.below HI2.out.low (Nat.le_refl _)).more HI2.out.low.size
      clear hwz hwz2 HIz HOz g1 g2 g4
      have g1:=cell_slot (o:=1) HO2.out.hp rfl
      have g4:=cell_slot (o:=4) HO2.out.hp rfl
      simp only [List.take_succ_cons,List.take_zero,List.drop_succ_cons,List.drop_zero]
      iterate 4 still_step
      still_call (HP1.out _)
      refine wpStill_nil ?_
      have HTX:=Lib.hid (text_any x4 A4 c4 n wz HRX.out (by omega) HX4.out.l4 HX4.out.u4)
      go_wp2_with fail
      refine HTX.out.mono ?_
      rintro e w3 ⟨A3,c3,rfl,out,ho1,ho2,ho3,ho4⟩
      have HI3:=Lib.hid (HI2.out.below ho4)
      have HO3:=Lib.hid (HO2.out.below ho4)
      obtain ⟨_,_,e3,_,_,_,hrd3⟩:=own_form ho3
      simp only [Value.slice.injEq] at e3
      obtain ⟨rfl,_,rfl⟩:=e3
      rw [Nat.mul_one] at hrd3
      subst ho1
      have HRB:=Lib.hid hrd3
      have HFB:Hid (∀ k ∈ fp (.slice A3 out.length c3),wz.heap.size≤k):=fun k hk=>(ho3.lt k (fp_own.1 hk)).1
      have HLT:=Lib.hid ho2
      clear ho2 ho3 ho4 hrd3 HTX g1 g4
      have g2:=cell_slot (o:=2) HO3.out.hp rfl
      go_upto_region 22 with (fail)
      go_wp2_with fail
      refine (HP2.out _).mono ?_;rintro e w' ⟨rfl,hw'⟩;subst hw'
      by_cases h39:q40=39
      ·subst h39
       clear HRB HFB HLT g2
       obtain ⟨i0,hi,hz0,hz1,hz2⟩:=info_parts infoB
       obtain ⟨zo,hout⟩:∃ z:List Nat,List.replicate 3990 0=z:=⟨_,rfl⟩
       have hlen:zo.length=3990:=by rw [← hout,List.length_replicate]
       have hmk:=fun W=>run_make (P:=Try.prog) W 30 5 i0 (.int .u8 0) Try.underlying30 hi hz0 .i64 .i64 3990 3990 (by omega) (by omega) (by rw [hz2];omega) (by omega)
       simp only [hz1,Nat.mul_one,show (3990:Int).toNat=3990 from rfl] at hmk
       have hmz:(madeCells (Value.int .u8 0).cells 3990).toList=bv zo:=by rw [← hout];exact zeroes 3990
       obtain ⟨zc,hzc⟩:∃ x,madeCells (Value.int .u8 0).cells 3990=x:=⟨_,rfl⟩
       rw [hzc] at hmk hmz
       have hzs:zc.size=3990:=by rw [← hzc];exact size_madeCells _ _
       have HLT:Hid (∀ c ∈ zo,c<256):=fun c hc=>by rw [← hout] at hc;have:=List.eq_of_mem_replicate hc;omega
       clear hzc hout hi hz0 hz1 hz2
       go_upto_region 24 with (fail)
       obtain ⟨w6,hw6⟩:∃ z,w3.alloc (.cells zc 5)=z:=⟨_,rfl⟩
       obtain ⟨gz,hgz⟩:∃ z,w3.heap.size=z:=⟨_,rfl⟩
       have HI6:Hid (SendI w w6 p q j (.slice Av m cv) F v3 v4 v5 G u1 u8 u9 s s l):=by rw [← hw6];exact HI3.out.below ((Below.refl _ _).alloc (Nat.le_refl _) _)
       have HO6:Hid (Off w6 g F G (.slice Av m cv) (.cells #[.int .i64 x0,.int .i64 x1,.int .i64 x2,.int .i64 x3,.slice A4 x4.length c4] 32 (0,0))):=by rw [← hw6];exact HO3.out.below ((Below.refl _ _).alloc (Nat.le_refl _) _)
       have HRB:Hid (Rd w6 w6.heap.size (some ⟨gz,0,none⟩) zo.length (bv zo)):=by rw [← hw6,← hgz,hlen];exact rd_new _ _ _ _ _ _ _ rfl (by simp) (by rw [hzs]) hmz
       have HOU:Hid (0<zo.length→∀ a,(some ⟨gz,0,none⟩:Option Addr)=some a→a.block ∉ F):=fun _ a ea hm=>by
        cases ea
        have h2:gz<w3.heap.size:=HI3.out.st.hF _ hm
        exact Nat.lt_irrefl _ (hgz ▸ h2)
       rw [hw6,hgz]
       rw [show (3990:Nat)=zo.length from hlen.symm]
       have HLZ:=Lib.hid hlen
       clear hlen
       clear hw6 hgz hmk hmz HI3 HO3 HI2 HO2 hzs
       obtain ⟨rz,hrz⟩:∃ z,(writeS s zo).1=z:=⟨_,rfl⟩
       have HWR:=Lib.hid (write_st HI6.out.st HOK.out.n zo w6.heap.size (some ⟨gz,0,none⟩) zo.length HRB.out (by have:=HLZ.out;omega))
       rw [hrz] at HWR
       go_wp2_with fail
       refine HWR.out.mono ?_
       rintro e w4 ⟨rfl,hs4⟩
       have hk4:Kept F w6 w4:=by obtain ⟨_,_,_,_,_,hk,_⟩:=hs4;exact hk
       have HRB4:=Lib.hid (rd_kept HRB.out hk4 HOU.out)
       obtain ⟨F4,a4,b4,c4,hI4,hO4⟩:=HI6.out.goP hs4
       have HI4:=Lib.hid hI4
       have HO4:=Lib.hid (hO4 _ _ HO6.out)
       clear hI4 hO4
       clear hs4 hk4 HWR
       have HRW:=Lib.hid (rwrite_st HI4.out.rf HOK.out.n zo w4.heap.size (some ⟨gz,0,none⟩) zo.length HRB4.out (Nat.le_refl _) (by have:=HLZ.out;omega))
       rw [hrz] at HRW
       go_wp2_with fail
       refine HRW.out.mono ?_
       rintro e w5 ⟨rfl,hs5⟩
       obtain ⟨G5,d5,e5,f5,hI5,hO5⟩:=HI4.out.goR hs5
       have HI5:=Lib.hid hI5
       have HO5:=Lib.hid (hO5 _ _ HO4.out)
       clear hI5 hO5
       clear hs5 HRW
       have HJ:Hid (TellJ w _ p q id (j+1) _):=⟨_,_,_,_,_,_,_,_,_,_,HI5.out.succ,HOK.out.write _ HLT.out,((write_id _ _).trans HSI.out)⟩
       go_wp2_with fail
       go_meet
       exact HJ
      ·have h39b:(q40 == 39)=false:=by simpa using h39
       clear h39 g2
       have HOU:Hid (0<out.length→∀ a,A3=some a→a.block ∉ F):=fun _ a ea hm=>by
        have h1:=HFB.out a.block (by rw [ea];simp [fp])
        have h2:=HI2.out.st.hF _ hm
        omega
       obtain ⟨rz,hrz⟩:∃ z,(writeS s out).1=z:=⟨_,rfl⟩
       have HWR:=Lib.hid (write_st HI3.out.st HOK.out.n out w3.heap.size A3 c3 HRB.out (by omega))
       rw [hrz] at HWR
       go_wp2_with fail
       refine HWR.out.mono ?_
       rintro e w4 ⟨rfl,hs4⟩
       have hk4:Kept F w3 w4:=by obtain ⟨_,_,_,_,_,hk,_⟩:=hs4;exact hk
       have HRB4:=Lib.hid (rd_kept HRB.out hk4 HOU.out)
       obtain ⟨F4,a4,b4,c4,hI4,hO4⟩:=HI3.out.goP hs4
       have HI4:=Lib.hid hI4
       have HO4:=Lib.hid (hO4 _ _ HO3.out)
       clear hI4 hO4
       clear hs4 hk4 HWR
       have HRW:=Lib.hid (rwrite_st HI4.out.rf HOK.out.n out w4.heap.size A3 c3 HRB4.out (Nat.le_refl _) (by omega))
       rw [hrz] at HRW
       go_wp2_with fail
       refine HRW.out.mono ?_
       rintro e w5 ⟨rfl,hs5⟩
       obtain ⟨G5,d5,e5,f5,hI5,hO5⟩:=HI4.out.goR hs5
       have HI5:=Lib.hid hI5
       have HO5:=Lib.hid (hO5 _ _ HO4.out)
       clear hI5 hO5
       clear hs5 HRW
       have HJ:Hid (TellJ w _ p q id (j+1) _):=⟨_,_,_,_,_,_,_,_,_,_,HI5.out.succ,HOK.out.write _ HLT.out,((write_id _ _).trans HSI.out)⟩
       go_wp2_with fail
       go_meet
       exact HJ
    have h1b:(k == 1)=false:=by simpa using h1
    clear h1
    by_cases h2:k=2
    ·subst h2
     clear hp16
     as_aux_lemma =>
      have g1:=cell_slot (o:=1) HO1.out.hp rfl
      have HP1:=Lib.hid (fun W=>pick_any x1 4 W (by decide) (by decide))
      obtain ⟨q4,hq4⟩:∃ z,x1 % 4=z:=⟨_,rfl⟩
      rw [hq4] at HP1
      clear hq4
      go_wp2_with fail
      refine (HP1.out _).mono ?_;rintro e w' ⟨rfl,hw'⟩;subst hw'
      by_cases h4:q4=0
      ·subst h4
       clear g1
       obtain ⟨rz,hrz⟩:∃ z,(finishS s).1=z:=⟨_,rfl⟩
       have HC:=Lib.hid (finish_st HI1.out.st)
       rw [hrz] at HC
       go_wp2_with fail
       refine HC.out.mono ?_
       rintro e w2 ⟨rfl,hs2⟩
       obtain ⟨F2,a2,b2,c2,hI2,hO2⟩:=HI1.out.goP hs2
       have HI2:=Lib.hid hI2
       have HO2:=Lib.hid (hO2 _ _ HO1.out)
       clear hI2 hO2
       have HD:=Lib.hid (rfinish_st HI2.out.rf)
       rw [hrz] at HD
       go_wp2_with fail
       refine HD.out.mono ?_
       rintro e w3 ⟨rfl,hs3⟩
       obtain ⟨G3,d3,e3,f3,hI3,hO3⟩:=HI2.out.goR hs3
       have HI3:=Lib.hid hI3
       have HO3:=Lib.hid (hO3 _ _ HO2.out)
       clear hI3 hO3
       clear hs2 hs3
       have HJ:Hid (TellJ w _ p q id (j+1) _):=⟨_,_,_,_,_,_,_,_,_,_,HI3.out.succ,HOK.out.finish,((finish_id _).trans HSI.out)⟩
       go_wp2_with fail
       go_meet
       exact HJ
      ·have h4b:(q4 == 0)=false:=by simpa using h4
       clear h4 g1
       have HJ:Hid (TellJ w _ p q id (j+1) _):=⟨_,_,_,_,_,_,_,_,_,_,HI1.out.succ,HOK.out,HSI.out⟩
       go_wp2_with fail
       go_meet
       exact HJ
    have h2b:(k == 2)=false:=by simpa using h2
    clear h2
    by_cases h3:k=3
    ·subst h3
     clear hp16
     as_aux_lemma =>
      have g1:=cell_slot (o:=1) HO1.out.hp rfl
      obtain ⟨z1,hz1⟩:∃ z,x1 % 3=z:=⟨_,rfl⟩
      obtain ⟨z2,hz2⟩:∃ z,x2 % 50=z:=⟨_,rfl⟩
      obtain ⟨z3,hz3⟩:∃ z,x3 % 500=z:=⟨_,rfl⟩
      have HP1:Hid (∀ W,Calls Try.prog 5 #[.int .i64 x1,.int .i64 3] W fun e w'=>e=.returned (.int .i64 z1)∧w'=W):=fun W=>by
       rw [← hz1];exact (pick_any x1 3 W (by decide) (by decide)).mono fun _ _ h=>⟨h.1,h.2.symm⟩
      have HP2:Hid (∀ W,Calls Try.prog 5 #[.int .i64 x2,.int .i64 50] W fun e w'=>e=.returned (.int .i64 z2)∧w'=W):=fun W=>by
       rw [← hz2];exact (pick_any x2 50 W (by decide) (by decide)).mono fun _ _ h=>⟨h.1,h.2.symm⟩
      have HP3:Hid (∀ W,Calls Try.prog 5 #[.int .i64 x3,.int .i64 500] W fun e w'=>e=.returned (.int .i64 z3)∧w'=W):=fun W=>by
       rw [← hz3];exact (pick_any x3 500 W (by decide) (by decide)).mono fun _ _ h=>⟨h.1,h.2.symm⟩
      by_cases h3:z1=0
      ·subst h3
       have hz20:0≤z2∧z2<50:=by omega
       have hz30:0≤z3∧z3<500:=by omega
       clear hz1 hz2 hz3
       have hw2:IntKind.i64.wrap (z2 - 1)=z2 - 1:=IntWalk.i64_in _ (by omega)
       have hw3:IntKind.i64.wrap (z3 - 2)=z3 - 2:=IntWalk.i64_in _ (by omega)
       obtain ⟨rz,hrz⟩:∃ z,(resetS s (z2 - 1) (z3 - 2)).1=z:=⟨_,rfl⟩
       obtain ⟨s9,hs9⟩:∃ z,(resetS s (z2 - 1) (z3 - 2)).2=z:=⟨_,rfl⟩
       have HCR:Hid (∀ F W v3 v4 v5 G u1 u8 u9,∀ s',SendI w W p q j (.slice Av m cv) F v3 v4 v5 G u1 u8 u9 s' s l→Calls Try.prog 15 #[.pointer (some ⟨q,0,none⟩),.int .i64 (z2 - 1),.int .i64 (z3 - 2)] W fun e w'=>e=.returned (.int .i64 rz)∧RTo W w' q G s9):=fun _ _ _ _ _ _ _ _ _ s' h=>by
        have:=rbreak_st h.rf (by have:=(edges_len HOK.out).2;omega) (z2 - 1) (z3 - 2)
        rw [hrz,hs9] at this;exact this
       have HCQ:Hid (∀ F W v3 v4 v5 G u1 u8 u9,∀ r',SendI w W p q j (.slice Av m cv) F v3 v4 v5 G u1 u8 u9 s r' l→Calls Try.prog 14 #[.pointer (some ⟨p,0,none⟩),.int .i64 (z2 - 1),.int .i64 (z3 - 2)] W fun e w'=>e=.returned (.int .i64 rz)∧StTo W w' p F s9):=fun _ _ _ _ _ _ _ _ _ r' h=>by
        have:=reset_st h.st (by have:=(edges_len HOK.out).2;omega) (z2 - 1) (z3 - 2)
        rw [hrz,hs9] at this;exact this
       have HOK9:Hid (StOk s9∧s9.id=id):=by rw [← hs9];exact ⟨HOK.out.reset _ _,by rw [reset_id];exact HSI.out⟩
       go_upto_region 30 with (fail)
       obtain ⟨wd,hwd⟩:∃ x,w1.drew=x:=⟨_,rfl⟩
       have HI2:Hid (SendI w wd p q j (.slice Av m cv) F v3 v4 v5 G u1 u8 u9 s s l):=by rw [← hwd];exact HI1.out.below ((Below.refl _ _).drew)
       have HO2:Hid (Off wd g F G (.slice Av m cv) (.cells #[.int .i64 x0,.int .i64 x1,.int .i64 x2,.int .i64 x3,.slice A4 x4.length c4] 32 (0,0))):=by rw [← hwd];exact HO1.out.below ((Below.refl _ _).drew)
       have HS0:Hid ((fun W:World=>W.cell? ⟨g,1,none⟩=some (.int .i64 x1)∧W.cell? ⟨g,2,none⟩=some (.int .i64 x2)∧W.cell? ⟨g,3,none⟩=some (.int .i64 x3)) wd):=⟨cell_slot (o:=1) HO2.out.hp rfl,cell_slot (o:=2) HO2.out.hp rfl,cell_slot (o:=3) HO2.out.hp rfl⟩
       clear g1
       refine wp_region_held_drew (S:=(fun W:World=>W.cell? ⟨g,1,none⟩=some (.int .i64 x1)∧W.cell? ⟨g,2,none⟩=some (.int .i64 x2)∧W.cell? ⟨g,3,none⟩=some (.int .i64 x3))) (by kernel_rfl) ?_ (fun hHeld=>?_)
       ·exact (hwd ▸ HS0.out)
       refine wpAnyH_take (i:=0) (v:=?_) rfl (by kernel_rfl) (by kernel_rfl) (by kernel_rfl) (fun _ _ _ h=>h) (Or.inl ⟨by rfl,?_⟩) (by assumption) ?_
       rotate_left
       ·intro w hSw;(try dsimp only at hSw);go_simp;try with_reducible rfl
       go_simp
       refine wpAnyH_take (i:=1) (v:=?_) rfl (by kernel_rfl) (by kernel_rfl) (by kernel_rfl) (fun _ _ _ h=>h) (Or.inl ⟨by rfl,?_⟩) (by assumption) ?_
       rotate_left
       ·intro w hSw;(try dsimp only at hSw);go_simp;try with_reducible rfl
       go_simp
       refine Lc.take_call (i:=2) (v:=_) rfl (by kernel_rfl) (by kernel_rfl) (by kernel_rfl) (fun _ _ _ h=>h) ⟨by rfl,fun wS hSw=>⟨5,#[.int .i64 x1,.int .i64 3],?_,HP1.out wS⟩⟩ (by assumption) ?_
       ·go_simp;try with_reducible rfl
       go_simp
       refine wpAnyH_take (i:=3) (v:=?_) rfl (by kernel_rfl) (by kernel_rfl) (by kernel_rfl) (fun _ _ _ h=>h) (Or.inl ⟨by rfl,?_⟩) (by assumption) ?_
       rotate_left
       ·intro w hSw;(try dsimp only at hSw);go_simp;try with_reducible rfl
       go_simp
       refine wpAnyH_take (i:=4) (v:=?_) rfl (by kernel_rfl) (by kernel_rfl) (by kernel_rfl) (fun _ _ _ h=>h) (Or.inl ⟨by rfl,?_⟩) (by assumption) ?_
       rotate_left
       ·intro w hSw;(try dsimp only at hSw);go_simp;try with_reducible rfl
       go_simp
       refine wpAnyH_take (i:=5) (v:=?_) rfl (by kernel_rfl) (by kernel_rfl) (by kernel_rfl) (fun _ _ _ h=>h) (Or.inl ⟨by rfl,?_⟩) (by assumption) ?_
       rotate_left
       ·intro w hSw;(try dsimp only at hSw);go_simp;try with_reducible rfl
       go_simp
       refine wpAnyH_take (i:=6) (v:=?_) rfl (by kernel_rfl) (by kernel_rfl) (by kernel_rfl) (fun _ _ _ h=>h) (Or.inl ⟨by rfl,?_⟩) (by assumption) ?_
       rotate_left
       ·intro w hSw;(try dsimp only at hSw);go_simp;try with_reducible rfl
       go_simp
       refine wpAnyH_take (i:=7) (v:=?_) rfl (by kernel_rfl) (by kernel_rfl) (by kernel_rfl) (fun _ _ _ h=>h) (Or.inl ⟨by rfl,?_⟩) (by assumption) ?_
       rotate_left
       ·intro w hSw;(try dsimp only at hSw);go_simp;try with_reducible rfl
       go_simp
       refine Lc.take_call (i:=8) (v:=_) rfl (by kernel_rfl) (by kernel_rfl) (by kernel_rfl) (fun _ _ _ h=>h) ⟨by rfl,fun wS hSw=>⟨5,#[.int .i64 x2,.int .i64 50],?_,HP2.out wS⟩⟩ (by assumption) ?_
       ·go_simp;try with_reducible rfl
       go_simp
       refine wpAnyH_take (i:=9) (v:=?_) rfl (by kernel_rfl) (by kernel_rfl) (by kernel_rfl) (fun _ _ _ h=>h) (Or.inl ⟨by rfl,?_⟩) (by assumption) ?_
       rotate_left
       ·intro w hSw;(try dsimp only at hSw);go_simp;try with_reducible rfl
       go_simp
       refine wpAnyH_take (i:=10) (v:=?_) rfl (by kernel_rfl) (by kernel_rfl) (by kernel_rfl) (fun _ _ _ h=>h) (Or.inl ⟨by rfl,?_⟩) (by assumption) ?_
       rotate_left
       ·intro w hSw;(try dsimp only at hSw);go_simp;try with_reducible rfl
       go_simp
       refine wpAnyH_take (i:=11) (v:=?_) rfl (by kernel_rfl) (by kernel_rfl) (by kernel_rfl) (fun _ _ _ h=>h) (Or.inl ⟨by rfl,?_⟩) (by assumption) ?_
       rotate_left
       ·intro w hSw;(try dsimp only at hSw);go_simp;try with_reducible rfl
       go_simp
       refine Lc.take_call (i:=12) (v:=_) rfl (by kernel_rfl) (by kernel_rfl) (by kernel_rfl) (fun _ _ _ h=>h) ⟨by rfl,fun wS hSw=>⟨5,#[.int .i64 x3,.int .i64 500],?_,HP3.out wS⟩⟩ (by assumption) ?_
       ·go_simp;try with_reducible rfl
       go_simp
       refine wpAnyH_take (i:=13) (v:=?_) rfl (by kernel_rfl) (by kernel_rfl) (by kernel_rfl) (fun _ _ _ h=>h) (Or.inl ⟨by rfl,?_⟩) (by assumption) ?_
       rotate_left
       ·intro w hSw;(try dsimp only at hSw);go_simp;try with_reducible rfl
       go_simp
       refine wpAnyH_take (i:=15) (v:=?_) rfl (by kernel_rfl) (by kernel_rfl) (by kernel_rfl) (fun _ _ _ h=>h) (Or.inl ⟨by rfl,?_⟩) (by assumption) ?_
       rotate_left
       ·intro w hSw;(try dsimp only at hSw);go_simp;try with_reducible rfl
       go_simp
       refine wpAnyH_take (i:=16) (v:=?_) rfl (by kernel_rfl) (by kernel_rfl) (by kernel_rfl) (fun _ _ _ h=>h) (Or.inl ⟨by rfl,?_⟩) (by assumption) ?_
       rotate_left
       ·intro w hSw;(try dsimp only at hSw);go_simp;try with_reducible rfl
       go_simp
       refine wpAnyH_take (i:=17) (v:=?_) rfl (by kernel_rfl) (by kernel_rfl) (by kernel_rfl) (fun _ _ _ h=>h) (Or.inl ⟨by rfl,?_⟩) (by assumption) ?_
       rotate_left
       ·intro w hSw;(try dsimp only at hSw);go_simp;try with_reducible rfl
       go_simp
       refine wpAnyH_take (i:=20) (v:=?_) rfl (by kernel_rfl) (by kernel_rfl) (by kernel_rfl) (fun _ _ _ h=>h) (Or.inl ⟨by rfl,?_⟩) (by assumption) ?_
       rotate_left
       ·intro w hSw;(try dsimp only at hSw);go_simp;try with_reducible rfl
       go_simp
       refine wpAnyH_take (i:=21) (v:=?_) rfl (by kernel_rfl) (by kernel_rfl) (by kernel_rfl) (fun _ _ _ h=>h) (Or.inl ⟨by rfl,?_⟩) (by assumption) ?_
       rotate_left
       ·intro w hSw;(try dsimp only at hSw);go_simp;try with_reducible rfl
       go_simp
       refine wpAnyH_ready (rs:=[14]) (by kernel_rfl) (by simp) ?_
       refine AllReadyH.cons rfl (fun K hK=>?_) AllReadyH.nil
       go_simp
       have HD:=Lib.hid (HCQ.out _ _ _ _ _ _ _ _ _ _ HI2.out)
       refine HD.out.mono ?_
       rintro e w2 ⟨rfl,hs2⟩
       obtain ⟨F3,a3,b3,c3,hI3,hO3⟩:=HI2.out.goP hs2
       have HI3:=Lib.hid hI3
       have HO3:=Lib.hid (hO3 _ _ HO2.out)
       clear hI3 hO3
       clear hs2
       refine hK.out _ _ ?_ (fun hHeld=>?_)
       ·exact ⟨cell_slot (o:=1) HO3.out.hp rfl,cell_slot (o:=2) HO3.out.hp rfl,cell_slot (o:=3) HO3.out.hp rfl⟩
       clear hK K
       go_simp
       refine Lc.take_call (i:=18) (v:=_) rfl (by kernel_rfl) (by kernel_rfl) (by kernel_rfl) (fun _ _ _ h=>h) ⟨by rfl,fun wS hSw=>⟨5,#[.int .i64 x2,.int .i64 50],?_,HP2.out wS⟩⟩ (by assumption) ?_
       ·go_simp;try with_reducible rfl
       go_simp
       refine wpAnyH_take (i:=19) (v:=?_) rfl (by kernel_rfl) (by kernel_rfl) (by kernel_rfl) (fun _ _ _ h=>h) (Or.inl ⟨by rfl,?_⟩) (by assumption) ?_
       rotate_left
       ·intro w hSw;(try dsimp only at hSw);go_simp;try with_reducible rfl
       go_simp
       refine Lc.take_call (i:=22) (v:=_) rfl (by kernel_rfl) (by kernel_rfl) (by kernel_rfl) (fun _ _ _ h=>h) ⟨by rfl,fun wS hSw=>⟨5,#[.int .i64 x3,.int .i64 500],?_,HP3.out wS⟩⟩ (by assumption) ?_
       ·go_simp;try with_reducible rfl
       go_simp
       refine wpAnyH_take (i:=23) (v:=?_) rfl (by kernel_rfl) (by kernel_rfl) (by kernel_rfl) (fun _ _ _ h=>h) (Or.inl ⟨by rfl,?_⟩) (by assumption) ?_
       rotate_left
       ·intro w hSw;(try dsimp only at hSw);go_simp;try with_reducible rfl
       go_simp
       refine wpAnyH_ready (rs:=[24]) (by kernel_rfl) (by simp) ?_
       refine AllReadyH.cons rfl (fun K hK=>?_) AllReadyH.nil
       go_simp
       have HD:=Lib.hid (HCR.out _ _ _ _ _ _ _ _ _ _ HI3.out)
       refine HD.out.mono ?_
       rintro e w3 ⟨rfl,hs3⟩
       obtain ⟨G4,d4,e4,f4,hI4,hO4⟩:=HI3.out.goR hs3
       have HI4:=Lib.hid hI4
       have HO4:=Lib.hid (hO4 _ _ HO3.out)
       clear hI4 hO4
       clear hs3
       refine hK.out _ _ ?_ (fun hHeld=>?_)
       ·exact ⟨cell_slot (o:=1) HO4.out.hp rfl,cell_slot (o:=2) HO4.out.hp rfl,cell_slot (o:=3) HO4.out.hp rfl⟩
       clear hK K
       go_simp
       refine wpAnyH_take (i:=25) (v:=?_) rfl (by kernel_rfl) (by kernel_rfl) (by kernel_rfl) (fun _ _ _ h=>h) (Or.inl ⟨by rfl,?_⟩) (by assumption) ?_
       rotate_left
       ·intro w hSw;(try dsimp only at hSw);go_simp;try with_reducible rfl
       go_simp
       refine wpAnyH_take (i:=26) (v:=?_) rfl (by kernel_rfl) (by kernel_rfl) (by kernel_rfl) (fun _ _ _ h=>h) (Or.inl ⟨by rfl,?_⟩) (by assumption) ?_
       rotate_left
       ·intro w hSw;(try dsimp only at hSw);go_simp;try with_reducible rfl
       go_simp
       refine wpAnyH_done (by kernel_rfl) ?_ _
       have HJ:Hid (TellJ w _ p q id (j+1) _):=⟨_,_,_,_,_,_,_,_,_,_,HI4.out.succ,HOK9.out.1,HOK9.out.2⟩
       go_wp2_with fail
       go_meet
       exact HJ
      ·have h3b:(z1 == 0)=false:=by simpa using h3
       clear h3 hz2 hz3
       clear hz1
       go_upto_region 30 with (fail)
       go_quiet ((go_at_call 5;exact Calls.quiet_of_same (HP1.out _)))
       have HI2:=Lib.hid (HI1.out.below (below_nq (Below.refl _ _) nq))
       have HJ:Hid (TellJ w _ p q id (j+1) _):=⟨_,_,_,_,_,_,_,_,_,_,HI2.out.succ,HOK.out,HSI.out⟩
       go_wp2_with fail
       go_meet
       exact HJ
    have h3b:(k == 3)=false:=by simpa using h3
    clear h3
    by_cases h4:k=4
    ·subst h4
     clear hp16
     as_aux_lemma =>
      have g1:=cell_slot (o:=1) HO1.out.hp rfl
      obtain ⟨z1,hz1⟩:∃ z,x1 % 1000=z:=⟨_,rfl⟩
      have HP1:Hid (∀ W,Calls Try.prog 5 #[.int .i64 x1,.int .i64 1000] W fun e w'=>e=.returned (.int .i64 z1)∧w'=W):=fun W=>by
       rw [← hz1];exact (pick_any x1 1000 W (by decide) (by decide)).mono fun _ _ h=>⟨h.1,h.2.symm⟩
      clear hz1
      obtain ⟨bz,hbz⟩:∃ z,Cr.raiseB s.l z1=z:=⟨_,rfl⟩
      have HCR:Hid (∀ F W v3 v4 v5 G u1 u8 u9,∀ s',SendI w W p q j (.slice Av m cv) F v3 v4 v5 G u1 u8 u9 s' s l→Calls Try.prog 17 #[.pointer (some ⟨q,2,none⟩),.int .i64 z1] W fun e w'=>e=.returned (.bool bz)∧RTo W w' q G (raiseS s z1)):=fun _ _ _ _ _ _ _ _ _ s' h=>by
       rw [← hbz]
       refine (Cr.rraise_any h.rf.cred z1).mono ?_
       rintro e w' ⟨rfl,hc⟩
       exact ⟨rfl,by have:=h.rf.toCred hc;rw [raise_eq] at this;exact this⟩
      have HCQ:Hid (∀ F W v3 v4 v5 G u1 u8 u9,∀ r',SendI w W p q j (.slice Av m cv) F v3 v4 v5 G u1 u8 u9 s r' l→Calls Try.prog 16 #[.pointer (some ⟨p,0,none⟩),.int .i64 z1] W fun e w'=>e=.returned (.bool bz)∧StTo W w' p F (raiseS s z1)):=fun _ _ _ _ _ _ _ _ _ r' h=>by
       rw [← hbz]
       refine (Cr.raise_any h.st.cred z1).mono ?_
       rintro e w' ⟨rfl,hc⟩
       exact ⟨rfl,by have:=h.st.toCred hc;rw [raise_eq] at this;exact this⟩
      have HOK9:Hid (StOk (raiseS s z1)∧(raiseS s z1).id=id):=⟨HOK.out.raise _,HSI.out⟩
      go_upto_region 33 with (fail)
      obtain ⟨wd,hwd⟩:∃ x,w1.drew=x:=⟨_,rfl⟩
      have HI2:Hid (SendI w wd p q j (.slice Av m cv) F v3 v4 v5 G u1 u8 u9 s s l):=by rw [← hwd];exact HI1.out.below ((Below.refl _ _).drew)
      have HO2:Hid (Off wd g F G (.slice Av m cv) (.cells #[.int .i64 x0,.int .i64 x1,.int .i64 x2,.int .i64 x3,.slice A4 x4.length c4] 32 (0,0))):=by rw [← hwd];exact HO1.out.below ((Below.refl _ _).drew)
      have HS0:Hid ((fun W:World=>W.cell? ⟨g,1,none⟩=some (.int .i64 x1)∧W.cell? ⟨g,2,none⟩=some (.int .i64 x2)∧W.cell? ⟨g,3,none⟩=some (.int .i64 x3)) wd):=⟨cell_slot (o:=1) HO2.out.hp rfl,cell_slot (o:=2) HO2.out.hp rfl,cell_slot (o:=3) HO2.out.hp rfl⟩
      clear g1
      refine wp_region_held_drew (S:=(fun W:World=>W.cell? ⟨g,1,none⟩=some (.int .i64 x1)∧W.cell? ⟨g,2,none⟩=some (.int .i64 x2)∧W.cell? ⟨g,3,none⟩=some (.int .i64 x3))) (by kernel_rfl) ?_ (fun hHeld=>?_)
      ·exact (hwd ▸ HS0.out)
      refine wpAnyH_take (i:=0) (v:=?_) rfl (by kernel_rfl) (by kernel_rfl) (by kernel_rfl) (fun _ _ _ h=>h) (Or.inl ⟨by rfl,?_⟩) (by assumption) ?_
      rotate_left
      ·intro w hSw;(try dsimp only at hSw);go_simp;try with_reducible rfl
      go_simp
      refine wpAnyH_take (i:=1) (v:=?_) rfl (by kernel_rfl) (by kernel_rfl) (by kernel_rfl) (fun _ _ _ h=>h) (Or.inl ⟨by rfl,?_⟩) (by assumption) ?_
      rotate_left
      ·intro w hSw;(try dsimp only at hSw);go_simp;try with_reducible rfl
      go_simp
      refine wpAnyH_take (i:=2) (v:=?_) rfl (by kernel_rfl) (by kernel_rfl) (by kernel_rfl) (fun _ _ _ h=>h) (Or.inl ⟨by rfl,?_⟩) (by assumption) ?_
      rotate_left
      ·intro w hSw;(try dsimp only at hSw);go_simp;try with_reducible rfl
      go_simp
      refine wpAnyH_take (i:=3) (v:=?_) rfl (by kernel_rfl) (by kernel_rfl) (by kernel_rfl) (fun _ _ _ h=>h) (Or.inl ⟨by rfl,?_⟩) (by assumption) ?_
      rotate_left
      ·intro w hSw;(try dsimp only at hSw);go_simp;try with_reducible rfl
      go_simp
      refine wpAnyH_take (i:=4) (v:=?_) rfl (by kernel_rfl) (by kernel_rfl) (by kernel_rfl) (fun _ _ _ h=>h) (Or.inl ⟨by rfl,?_⟩) (by assumption) ?_
      rotate_left
      ·intro w hSw;(try dsimp only at hSw);go_simp;try with_reducible rfl
      go_simp
      refine Lc.take_call (i:=5) (v:=_) rfl (by kernel_rfl) (by kernel_rfl) (by kernel_rfl) (fun _ _ _ h=>h) ⟨by rfl,fun wS hSw=>⟨5,#[.int .i64 x1,.int .i64 1000],?_,HP1.out wS⟩⟩ (by assumption) ?_
      ·go_simp;try with_reducible rfl
      go_simp
      refine wpAnyH_take (i:=7) (v:=?_) rfl (by kernel_rfl) (by kernel_rfl) (by kernel_rfl) (fun _ _ _ h=>h) (Or.inl ⟨by rfl,?_⟩) (by assumption) ?_
      rotate_left
      ·intro w hSw;(try dsimp only at hSw);go_simp;try with_reducible rfl
      go_simp
      refine wpAnyH_take (i:=8) (v:=?_) rfl (by kernel_rfl) (by kernel_rfl) (by kernel_rfl) (fun _ _ _ h=>h) (Or.inl ⟨by rfl,?_⟩) (by assumption) ?_
      rotate_left
      ·intro w hSw;(try dsimp only at hSw);go_simp;try with_reducible rfl
      go_simp
      refine wpAnyH_take (i:=9) (v:=?_) rfl (by kernel_rfl) (by kernel_rfl) (by kernel_rfl) (fun _ _ _ h=>h) (Or.inl ⟨by rfl,?_⟩) (by assumption) ?_
      rotate_left
      ·intro w hSw;(try dsimp only at hSw);go_simp;try with_reducible rfl
      go_simp
      refine wpAnyH_take (i:=10) (v:=?_) rfl (by kernel_rfl) (by kernel_rfl) (by kernel_rfl) (fun _ _ _ h=>h) (Or.inl ⟨by rfl,?_⟩) (by assumption) ?_
      rotate_left
      ·intro w hSw;(try dsimp only at hSw);go_simp;try with_reducible rfl
      go_simp
      refine wpAnyH_take (i:=11) (v:=?_) rfl (by kernel_rfl) (by kernel_rfl) (by kernel_rfl) (fun _ _ _ h=>h) (Or.inl ⟨by rfl,?_⟩) (by assumption) ?_
      rotate_left
      ·intro w hSw;(try dsimp only at hSw);go_simp;try with_reducible rfl
      go_simp
      refine wpAnyH_ready (rs:=[6]) (by kernel_rfl) (by simp) ?_
      refine AllReadyH.cons rfl (fun K hK=>?_) AllReadyH.nil
      go_simp
      have HD:=Lib.hid (HCQ.out _ _ _ _ _ _ _ _ _ _ HI2.out)
      refine HD.out.mono ?_
      rintro e w2 ⟨rfl,hs2⟩
      obtain ⟨F3,a3,b3,c3,hI3,hO3⟩:=HI2.out.goP hs2
      have HI3:=Lib.hid hI3
      have HO3:=Lib.hid (hO3 _ _ HO2.out)
      clear hI3 hO3
      clear hs2
      refine hK.out _ _ ?_ (fun hHeld=>?_)
      ·exact ⟨cell_slot (o:=1) HO3.out.hp rfl,cell_slot (o:=2) HO3.out.hp rfl,cell_slot (o:=3) HO3.out.hp rfl⟩
      clear hK K
      go_simp
      refine Lc.take_call (i:=12) (v:=_) rfl (by kernel_rfl) (by kernel_rfl) (by kernel_rfl) (fun _ _ _ h=>h) ⟨by rfl,fun wS hSw=>⟨5,#[.int .i64 x1,.int .i64 1000],?_,HP1.out wS⟩⟩ (by assumption) ?_
      ·go_simp;try with_reducible rfl
      go_simp
      refine wpAnyH_ready (rs:=[13]) (by kernel_rfl) (by simp) ?_
      refine AllReadyH.cons rfl (fun K hK=>?_) AllReadyH.nil
      go_simp
      have HD:=Lib.hid (HCR.out _ _ _ _ _ _ _ _ _ _ HI3.out)
      refine HD.out.mono ?_
      rintro e w3 ⟨rfl,hs3⟩
      obtain ⟨G4,d4,e4,f4,hI4,hO4⟩:=HI3.out.goR hs3
      have HI4:=Lib.hid hI4
      have HO4:=Lib.hid (hO4 _ _ HO3.out)
      clear hI4 hO4
      clear hs3
      refine hK.out _ _ ?_ (fun hHeld=>?_)
      ·exact ⟨cell_slot (o:=1) HO4.out.hp rfl,cell_slot (o:=2) HO4.out.hp rfl,cell_slot (o:=3) HO4.out.hp rfl⟩
      clear hK K
      go_simp
      refine wpAnyH_take (i:=14) (v:=?_) rfl (by kernel_rfl) (by kernel_rfl) (by kernel_rfl) (fun _ _ _ h=>h) (Or.inl ⟨by rfl,?_⟩) (by assumption) ?_
      rotate_left
      ·intro w hSw;(try dsimp only at hSw);go_simp;try with_reducible rfl
      go_simp
      refine wpAnyH_done (by kernel_rfl) ?_ _
      have HJ:Hid (TellJ w _ p q id (j+1) _):=⟨_,_,_,_,_,_,_,_,_,_,HI4.out.succ,HOK9.out.1,HOK9.out.2⟩
      go_wp2_with fail
      go_meet
      exact HJ
    have h4b:(k == 4)=false:=by simpa using h4
    clear h4
    by_cases h5:k=5
    ·subst h5
     clear hp16
     as_aux_lemma =>
      have htc:turnS s=none∨∃ s1,turnS s=some s1:=by
       cases turnS s
       ·exact .inl rfl
       ·exact .inr ⟨_,rfl⟩
      rcases htc with ht | ⟨s1,ht⟩
      ·skip
       have HC:=Lib.hid (turn_none_st HI1.out.st ht)
       go_wp2_with fail
       refine HC.out.mono ?_
       rintro e w2 ⟨rfl,hs2⟩
       obtain ⟨F2,a2,b2,c2,hI2,hO2⟩:=HI1.out.goP hs2
       have HI2:=Lib.hid hI2
       have HO2:=Lib.hid (hO2 _ _ HO1.out)
       clear hI2 hO2
       clear hs2 HC
       go_upto_region 37 with (fail)
       obtain ⟨w3,hw3⟩:∃ x,w2.alloc (.cells #[.int .i64 0,.int .i64 0,.int .i64 0,.int .i64 0,.int .i64 0,.int .i64 0,.bool false,.slice none 0 0,.slice none 0 0] 54)=x:=⟨_,rfl⟩
       obtain ⟨gf,hg3⟩:∃ x,w2.heap.size=x:=⟨_,rfl⟩
       have hAl:=HI2.out.laid (.cells #[.int .i64 0,.int .i64 0,.int .i64 0,.int .i64 0,.int .i64 0,.int .i64 0,.bool false,.slice none 0 0,.slice none 0 0] 54)
       have hOl:=HO2.out.below ((Below.refl _ _).alloc (Nat.le_refl _) (.cells #[.int .i64 0,.int .i64 0,.int .i64 0,.int .i64 0,.int .i64 0,.int .i64 0,.bool false,.slice none 0 0,.slice none 0 0] 54))
       rw [hw3,hg3] at hAl
       rw [hw3] at hOl
       have HI3:=Lib.hid hAl.1
       have HX3:=Lib.hid hAl.2
       have HO3:=Lib.hid hOl
       rw [hw3,hg3]
       clear hw3 hg3 hAl hOl
       have HD:=Lib.hid (rturn_none_st HI3.out.rf HOK.out.br ht)
       go_wp2_with fail
       refine HD.out.mono ?_
       rintro e w4 ⟨rfl,hs4⟩
       obtain ⟨G4,d4,e4,f4,hI4,hO4⟩:=HI3.out.goR hs4
       have HI4:=Lib.hid hI4
       have HX4':=Lib.hid (hO4 _ _ HX3.out)
       have HO4:=Lib.hid (hO4 _ _ HO3.out)
       clear hI4 hO4 hs4 HD
       go_upto_region 38 with (fail)
       obtain ⟨w5,hw5⟩:∃ x,w4.alloc (.cells #[.int .i64 0,.int .i64 0,.int .i64 0,.int .i64 0,.int .i64 0,.int .i64 0,.bool false,.slice none 0 0,.slice none 0 0] 54)=x:=⟨_,rfl⟩
       obtain ⟨gh,hg5⟩:∃ x,w4.heap.size=x:=⟨_,rfl⟩
       have hAl:=HI4.out.laid (.cells #[.int .i64 0,.int .i64 0,.int .i64 0,.int .i64 0,.int .i64 0,.int .i64 0,.bool false,.slice none 0 0,.slice none 0 0] 54)
       have hOl:=HO4.out.below ((Below.refl _ _).alloc (Nat.le_refl _) (.cells #[.int .i64 0,.int .i64 0,.int .i64 0,.int .i64 0,.int .i64 0,.int .i64 0,.bool false,.slice none 0 0,.slice none 0 0] 54))
       rw [hw5,hg5] at hAl
       rw [hw5] at hOl
       have HI5:=Lib.hid hAl.1
       have hXl:=HX4'.out.below ((Below.refl _ _).alloc (Nat.le_refl _) (.cells #[.int .i64 0,.int .i64 0,.int .i64 0,.int .i64 0,.int .i64 0,.int .i64 0,.bool false,.slice none 0 0,.slice none 0 0] 54))
       rw [hw5] at hXl
       have HX6:=Lib.hid hXl
       have HX5:=Lib.hid hAl.2
       have HO5:=Lib.hid hOl
       rw [hw5,hg5]
       clear hXl hw5 hg5 hAl hOl
       have y0:=cell_slot (o:=0) HX6.out.hp rfl
       have y1:=cell_slot (o:=1) HX6.out.hp rfl
       have y2:=cell_slot (o:=2) HX6.out.hp rfl
       have y3:=cell_slot (o:=3) HX6.out.hp rfl
       have y4:=cell_slot (o:=4) HX6.out.hp rfl
       have y5:=cell_slot (o:=5) HX6.out.hp rfl
       have y6:=cell_slot (o:=6) HX6.out.hp rfl
       have y7:=cell_slot (o:=7) HX6.out.hp rfl
       have y8:=cell_slot (o:=8) HX6.out.hp rfl
       have z0:=cell_slot (o:=0) HX5.out.hp rfl
       have z1:=cell_slot (o:=1) HX5.out.hp rfl
       have z2:=cell_slot (o:=2) HX5.out.hp rfl
       have z3:=cell_slot (o:=3) HX5.out.hp rfl
       have z4:=cell_slot (o:=4) HX5.out.hp rfl
       have z5:=cell_slot (o:=5) HX5.out.hp rfl
       have z6:=cell_slot (o:=6) HX5.out.hp rfl
       have z7:=cell_slot (o:=7) HX5.out.hp rfl
       have z8:=cell_slot (o:=8) HX5.out.hp rfl
       have HSM:=Lib.hid (Sq.rsame_same 0 0 0 0 0 0 0 false [] [] w5.heap.size w5.heap.size none none none none 0 0 0 0 0 0 w5 (Rd.nil _ _ _) (Rd.nil _ _ _) (Rd.nil _ _ _) (Rd.nil _ _ _) (Nat.le_refl _) (Nat.le_refl _) (by omega) (Nat.le_refl _) (Nat.le_refl _))
       go_wp2_with fail
       refine HSM.out.mono ?_
       rintro e w7 ⟨rfl,hb7⟩
       have HI7:=Lib.hid (HI5.out.below hb7)
       have HX7:=Lib.hid (HX6.out.below hb7)
       clear hb7 HSM y0 y1 y2 y3 y4 y5 y6 y7 y8 z0 z1 z2 z3 z4 z5 z6 z7 z8
       have HJ:Hid (TellJ w _ p q id (j+1) _):=⟨_,_,_,_,_,_,_,_,_,_,HI7.out.succ,HOK.out,HSI.out⟩
       go_wp2_with fail
       go_meet
       exact HJ
      ·skip
       have HC:=Lib.hid (turn_some_st HI1.out.st s1 ht)
       go_wp2_with fail
       refine HC.out.mono ?_
       rintro e w2 ⟨rfl,hs2⟩
       obtain ⟨F2,a2,b2,c2,hI2,hO2⟩:=HI1.out.goP hs2
       have HI2:=Lib.hid hI2
       have HO2:=Lib.hid (hO2 _ _ HO1.out)
       clear hI2 hO2
       clear hs2 HC
       go_upto_region 37 with (fail)
       obtain ⟨w3,hw3⟩:∃ x,w2.alloc (.cells #[.int .i64 4,.int .i64 s.id,.int .i64 s.u,.int .i64 s.code,.int .i64 s.sure,.int .i64 0,.bool false,.slice none 0 0,.slice none 0 0] 54)=x:=⟨_,rfl⟩
       obtain ⟨gf,hg3⟩:∃ x,w2.heap.size=x:=⟨_,rfl⟩
       have hAl:=HI2.out.laid (.cells #[.int .i64 4,.int .i64 s.id,.int .i64 s.u,.int .i64 s.code,.int .i64 s.sure,.int .i64 0,.bool false,.slice none 0 0,.slice none 0 0] 54)
       have hOl:=HO2.out.below ((Below.refl _ _).alloc (Nat.le_refl _) (.cells #[.int .i64 4,.int .i64 s.id,.int .i64 s.u,.int .i64 s.code,.int .i64 s.sure,.int .i64 0,.bool false,.slice none 0 0,.slice none 0 0] 54))
       rw [hw3,hg3] at hAl
       rw [hw3] at hOl
       have HI3:=Lib.hid hAl.1
       have HX3:=Lib.hid hAl.2
       have HO3:=Lib.hid hOl
       rw [hw3,hg3]
       clear hw3 hg3 hAl hOl
       have HD:=Lib.hid (rturn_some_st HI3.out.rf HOK.out.br s1 ht)
       go_wp2_with fail
       refine HD.out.mono ?_
       rintro e w4 ⟨rfl,hs4⟩
       obtain ⟨G4,d4,e4,f4,hI4,hO4⟩:=HI3.out.goR hs4
       have HI4:=Lib.hid hI4
       have HX4':=Lib.hid (hO4 _ _ HX3.out)
       have HO4:=Lib.hid (hO4 _ _ HO3.out)
       clear hI4 hO4 hs4 HD
       go_upto_region 38 with (fail)
       obtain ⟨w5,hw5⟩:∃ x,w4.alloc (.cells #[.int .i64 4,.int .i64 s.id,.int .i64 s.u,.int .i64 s.code,.int .i64 s.sure,.int .i64 0,.bool false,.slice none 0 0,.slice none 0 0] 54)=x:=⟨_,rfl⟩
       obtain ⟨gh,hg5⟩:∃ x,w4.heap.size=x:=⟨_,rfl⟩
       have hAl:=HI4.out.laid (.cells #[.int .i64 4,.int .i64 s.id,.int .i64 s.u,.int .i64 s.code,.int .i64 s.sure,.int .i64 0,.bool false,.slice none 0 0,.slice none 0 0] 54)
       have hOl:=HO4.out.below ((Below.refl _ _).alloc (Nat.le_refl _) (.cells #[.int .i64 4,.int .i64 s.id,.int .i64 s.u,.int .i64 s.code,.int .i64 s.sure,.int .i64 0,.bool false,.slice none 0 0,.slice none 0 0] 54))
       rw [hw5,hg5] at hAl
       rw [hw5] at hOl
       have HI5:=Lib.hid hAl.1
       have hXl:=HX4'.out.below ((Below.refl _ _).alloc (Nat.le_refl _) (.cells #[.int .i64 4,.int .i64 s.id,.int .i64 s.u,.int .i64 s.code,.int .i64 s.sure,.int .i64 0,.bool false,.slice none 0 0,.slice none 0 0] 54))
       rw [hw5] at hXl
       have HX6:=Lib.hid hXl
       have HX5:=Lib.hid hAl.2
       have HO5:=Lib.hid hOl
       rw [hw5,hg5]
       clear hXl hw5 hg5 hAl hOl
       have y0:=cell_slot (o:=0) HX6.out.hp rfl
       have y1:=cell_slot (o:=1) HX6.out.hp rfl
       have y2:=cell_slot (o:=2) HX6.out.hp rfl
       have y3:=cell_slot (o:=3) HX6.out.hp rfl
       have y4:=cell_slot (o:=4) HX6.out.hp rfl
       have y5:=cell_slot (o:=5) HX6.out.hp rfl
       have y6:=cell_slot (o:=6) HX6.out.hp rfl
       have y7:=cell_slot (o:=7) HX6.out.hp rfl
       have y8:=cell_slot (o:=8) HX6.out.hp rfl
       have z0:=cell_slot (o:=0) HX5.out.hp rfl
       have z1:=cell_slot (o:=1) HX5.out.hp rfl
       have z2:=cell_slot (o:=2) HX5.out.hp rfl
       have z3:=cell_slot (o:=3) HX5.out.hp rfl
       have z4:=cell_slot (o:=4) HX5.out.hp rfl
       have z5:=cell_slot (o:=5) HX5.out.hp rfl
       have z6:=cell_slot (o:=6) HX5.out.hp rfl
       have z7:=cell_slot (o:=7) HX5.out.hp rfl
       have z8:=cell_slot (o:=8) HX5.out.hp rfl
       have HSM:=Lib.hid (Sq.rsame_same 4 s.id s.u s.code s.sure 0 0 false [] [] w5.heap.size w5.heap.size none none none none 0 0 0 0 0 0 w5 (Rd.nil _ _ _) (Rd.nil _ _ _) (Rd.nil _ _ _) (Rd.nil _ _ _) (Nat.le_refl _) (Nat.le_refl _) (by omega) (Nat.le_refl _) (Nat.le_refl _))
       go_wp2_with fail
       refine HSM.out.mono ?_
       rintro e w7 ⟨rfl,hb7⟩
       have HI7:=Lib.hid (HI5.out.below hb7)
       have HX7:=Lib.hid (HX6.out.below hb7)
       clear hb7 HSM y0 y1 y2 y3 y4 y5 y6 y7 y8 z0 z1 z2 z3 z4 z5 z6 z7 z8
       have y0:=cell_slot (o:=0) HX7.out.hp rfl
       have y1:=cell_slot (o:=1) HX7.out.hp rfl
       have y2:=cell_slot (o:=2) HX7.out.hp rfl
       have y3:=cell_slot (o:=3) HX7.out.hp rfl
       have y4:=cell_slot (o:=4) HX7.out.hp rfl
       have y5:=cell_slot (o:=5) HX7.out.hp rfl
       have y6:=cell_slot (o:=6) HX7.out.hp rfl
       have y7:=cell_slot (o:=7) HX7.out.hp rfl
       have y8:=cell_slot (o:=8) HX7.out.hp rfl
       have HOF:Hid ((0≤s.u∧s.u≤4611686018427387903)∧(0:Nat)≤1099511627776):=⟨⟨HOK.out.u.1,by have:=HOK.out.u;have:=HOK.out.n;omega⟩,Nat.zero_le _⟩
       go_upto_region 41 with (fail)
       obtain ⟨i0,hi,hz0,hz1,hz2⟩:=info_parts infoF
       have HI0:=Lib.hid (And.intro hi (And.intro hz0 (And.intro hz1 hz2)))
       have hd1:Hid (Rd (w7.alloc (.cells #[.int .i64 4,.int .i64 s.id,.int .i64 s.u,.int .i64 s.code,.int .i64 s.sure,.int .i64 0,.bool false,.slice none 0 0,.slice none 0 0] 54)) (w7.heap.size+1) (some ⟨w7.heap.size,0,none⟩) (1 * 9) (Fv.cells ⟨4,s.id,s.u,s.code,s.sure,0,false,none,0,0,none,0,0⟩)):=rd_new _ _ _ _ _ _ _ rfl (by omega) rfl rfl
       have hd2:Hid (m+1≤maxLen∧(m+1) * 104≤140737488355328):=⟨by unfold maxLen;omega,by omega⟩
       have HI8:=Lib.hid (HI7.out.below ((Below.refl _ _).alloc (Nat.le_refl _) (.cells #[.int .i64 4,.int .i64 s.id,.int .i64 s.u,.int .i64 s.code,.int .i64 s.sure,.int .i64 0,.bool false,.slice none 0 0,.slice none 0 0] 54)))
       have HQ5:Hid ((w7.alloc (.cells #[.int .i64 4,.int .i64 s.id,.int .i64 s.u,.int .i64 s.code,.int .i64 s.sure,.int .i64 0,.bool false,.slice none 0 0,.slice none 0 0] 54)).ownsRow w.heap.size 54 9 (.slice Av m cv) m (fvs l)):=by have:=HI8.out.row.1;rw [HM.out] at this;exact this
       have hd4:Hid (w.heap.size≤(w7.alloc (.cells #[.int .i64 4,.int .i64 s.id,.int .i64 s.u,.int .i64 s.code,.int .i64 s.sure,.int .i64 0,.bool false,.slice none 0 0,.slice none 0 0] 54)).heap.size):=HI8.out.low.size
       clear hi hz0 hz1 hz2
       apply wp_region_lit
       iterate 6 (go_step)
       refine wpList_frame rfl (.tmp 192) rfl (some 193) rfl (4) (s.id) (s.u) (s.code) (s.sure) (0) (false) (none) (0) (0) (none) (0) (0) (by kernel_rfl) ?_
       go_wp2_with (at_builtin;refine wpList_app_at _ rfl (.tmp 191) (.tmp 193) 29 rfl w.heap.size 54 i0 _ 9 104 Try.underlying29 HI0.out.1 HI0.out.2.1 HI0.out.2.2.1 HI0.out.2.2.2 rfl (by decide) (.slice Av m cv) m (fvs l) (by kernel_rfl) HQ5.out (w7.heap.size+1) (some ⟨w7.heap.size,0,none⟩) 1 1 (Fv.cells ⟨4,s.id,s.u,s.code,s.sure,0,false,none,0,0,none,0,0⟩) (by kernel_rfl) hd1.out (ones_fv _) hd2.out.1 hd2.out.2 hd4.out ?_)
       intro v6 w6 ho6 hg6 hn6
       have hI6:=HI8.out.push (f:=⟨4,s.id,s.u,s.code,s.sure,0,false,none,0,0,none,0,0⟩) hg6 (by rw [HM.out];exact ho6) (by simpa using hn6) HOF.out
       obtain ⟨A6,c6,e6,_⟩:=own_form ho6
       subst e6
       have HI6:=Lib.hid hI6
       clear ho6 hg6 hn6 hI6
       have HJ:Hid (TellJ w _ p q id (j+1) _):=⟨_,_,_,_,_,_,_,_,_,_,HI6.out,(HOK.out.turned ht),((turn_id ht).trans HSI.out)⟩
       go_wp2_with fail
       go_meet
       exact HJ
    have h5b:(k == 5)=false:=by simpa using h5
    clear h5
    by_cases h6:k=6
    ·subst h6
     clear hp16
     as_aux_lemma =>
      have g1:=cell_slot (o:=1) HO1.out.hp rfl
      by_cases hm0:m=0
      ·subst hm0
       clear g1
       have HJ:Hid (TellJ w _ p q id (j+1) _):=⟨_,_,_,_,_,_,_,_,_,_,HI1.out.succ,HOK.out,HSI.out⟩
       go_wp2_with fail
       go_meet
       exact HJ
      ·have hm1I:decide (0<m)=true:=decide_eq_true (by omega)
       have hm2I:0<(m:Int):=by omega
       obtain ⟨qn,hqn,hqm⟩:∃ q:Nat,x1 % (m:Int)=(q:Int)∧q<m:=⟨(x1 % (m:Int)).toNat,by have:=Int.emod_nonneg x1 (show (m:Int)≠0 by omega);omega,by have:=Int.emod_lt_of_pos x1 hm2I;have:=Int.emod_nonneg x1 (show (m:Int)≠0 by omega);omega⟩
       have HP:=Lib.hid (fun W=>pick_any x1 (m:Int) W hm2I (by omega))
       rw [hqn] at HP
       obtain ⟨bb,oo,f,hA,hfl,hfo,hfc⟩:=HI1.out.row.get qn (by have:=HM.out;omega)
       subst hA
       obtain ⟨fk,fid,foff,fa,fb,fno,ffin,fA,fn,fc,fA2,fn2,fc2⟩:=f
       have d0:w1.cell? ⟨bb,oo+qn * 9,none⟩=some (.int .i64 fk):=hfc 0 _ rfl
       have d1:w1.cell? ⟨bb,oo+qn * 9+1,none⟩=some (.int .i64 fid):=hfc 1 _ rfl
       have d2:w1.cell? ⟨bb,oo+qn * 9+2,none⟩=some (.int .i64 foff):=hfc 2 _ rfl
       have d3:w1.cell? ⟨bb,oo+qn * 9+3,none⟩=some (.int .i64 fa):=hfc 3 _ rfl
       have d4:w1.cell? ⟨bb,oo+qn * 9+4,none⟩=some (.int .i64 fb):=hfc 4 _ rfl
       have d5:w1.cell? ⟨bb,oo+qn * 9+5,none⟩=some (.int .i64 fno):=hfc 5 _ rfl
       have d6:w1.cell? ⟨bb,oo+qn * 9+6,none⟩=some (.bool ffin):=hfc 6 _ rfl
       have d7:w1.cell? ⟨bb,oo+qn * 9+7,none⟩=some (.slice fA fn fc):=hfc 7 _ rfl
       have d8:w1.cell? ⟨bb,oo+qn * 9+8,none⟩=some (.slice fA2 fn2 fc2):=hfc 8 _ rfl
       have hqI:(qn:Int)<(m:Int):=by omega
       have HFO:=Lib.hid hfo
       clear hqn hfc hfl hfo hm0
       go_wp2_with fail
       refine (HP.out _).mono ?_;rintro e w' ⟨rfl,hw'⟩;subst hw'
       go_upto_region 46 with (fail)
       clear d0 d1 d2 d3 d4 d5 d6 d7 d8 g1
       obtain ⟨w2,hw2⟩:∃ x,w1.alloc (.cells #[.int .i64 fk,.int .i64 fid,.int .i64 foff,.int .i64 fa,.int .i64 fb,.int .i64 fno,.bool ffin,.slice fA fn fc,.slice fA2 fn2 fc2] 54)=x:=⟨_,rfl⟩
       obtain ⟨gf,hg2⟩:∃ x,w1.heap.size=x:=⟨_,rfl⟩
       have hAl:=HI1.out.laid (.cells #[.int .i64 fk,.int .i64 fid,.int .i64 foff,.int .i64 fa,.int .i64 fb,.int .i64 fno,.bool ffin,.slice fA fn fc,.slice fA2 fn2 fc2] 54)
       have hOl:=HO1.out.below ((Below.refl _ _).alloc (Nat.le_refl _) (.cells #[.int .i64 fk,.int .i64 fid,.int .i64 foff,.int .i64 fa,.int .i64 fb,.int .i64 fno,.bool ffin,.slice fA fn fc,.slice fA2 fn2 fc2] 54))
       rw [hw2,hg2] at hAl
       rw [hw2] at hOl
       have HI2:=Lib.hid hAl.1
       have HX2:=Lib.hid hAl.2
       have HO2:=Lib.hid hOl
       rw [hw2,hg2]
       clear hw2 hg2 hAl hOl
       have z0:=cell_slot (o:=0) HX2.out.hp rfl
       have z1:=cell_slot (o:=1) HX2.out.hp rfl
       have z2:=cell_slot (o:=2) HX2.out.hp rfl
       have z3:=cell_slot (o:=3) HX2.out.hp rfl
       have z4:=cell_slot (o:=4) HX2.out.hp rfl
       have z5:=cell_slot (o:=5) HX2.out.hp rfl
       have z6:=cell_slot (o:=6) HX2.out.hp rfl
       have z7:=cell_slot (o:=7) HX2.out.hp rfl
       have z8:=cell_slot (o:=8) HX2.out.hp rfl
       have HC:=Lib.hid (lost_st HI2.out.st HOK.out fk fid foff fa fb fno ffin fA fn fc fA2 fn2 fc2 HFO.out.1 HFO.out.2)
       go_wp2_with fail
       refine HC.out.mono ?_
       rintro e w8 ⟨rfl,hs8⟩
       obtain ⟨F8,a8,b8,c8,hI8,hO8⟩:=HI2.out.goP hs8
       have HI8:=Lib.hid hI8
       have HX8:=Lib.hid (hO8 _ _ HX2.out)
       clear hI8 hO8 hs8 HC z0 z1 z2 z3 z4 z5 z6 z7 z8
       have z0:=cell_slot (o:=0) HX8.out.hp rfl
       have z1:=cell_slot (o:=1) HX8.out.hp rfl
       have z2:=cell_slot (o:=2) HX8.out.hp rfl
       have z3:=cell_slot (o:=3) HX8.out.hp rfl
       have z4:=cell_slot (o:=4) HX8.out.hp rfl
       have z5:=cell_slot (o:=5) HX8.out.hp rfl
       have z6:=cell_slot (o:=6) HX8.out.hp rfl
       have z7:=cell_slot (o:=7) HX8.out.hp rfl
       have z8:=cell_slot (o:=8) HX8.out.hp rfl
       have HD:=Lib.hid (rlost_st HI8.out.rf HOK.out fk fid foff fa fb fno ffin fA fn fc fA2 fn2 fc2 HFO.out.1 HFO.out.2)
       go_wp2_with fail
       refine HD.out.mono ?_
       rintro e w9 ⟨rfl,hs9⟩
       obtain ⟨G9,d9,e9,f9,hI9,hO9⟩:=HI8.out.goR hs9
       have HI9:=Lib.hid hI9
       clear hI9 hO9 hs9 HD z0 z1 z2 z3 z4 z5 z6 z7 z8
       have HJ:Hid (TellJ w _ p q id (j+1) _):=⟨_,_,_,_,_,_,_,_,_,_,HI9.out.succ,(HOK.out.lose _),((lost_id _ _).trans HSI.out)⟩
       go_wp2_with fail
       go_meet
       exact HJ
    have h6b:(k == 6)=false:=by simpa using h6
    clear h6
    by_cases h7:k=7
    ·subst h7
     clear hp16
     as_aux_lemma =>
      have g1:=cell_slot (o:=1) HO1.out.hp rfl
      by_cases hm0:m=0
      ·subst hm0
       clear g1
       have HJ:Hid (TellJ w _ p q id (j+1) _):=⟨_,_,_,_,_,_,_,_,_,_,HI1.out.succ,HOK.out,HSI.out⟩
       go_wp2_with fail
       go_meet
       exact HJ
      ·have hm1I:decide (0<m)=true:=decide_eq_true (by omega)
       have hm2I:0<(m:Int):=by omega
       obtain ⟨qn,hqn,hqm⟩:∃ q:Nat,x1 % (m:Int)=(q:Int)∧q<m:=⟨(x1 % (m:Int)).toNat,by have:=Int.emod_nonneg x1 (show (m:Int)≠0 by omega);omega,by have:=Int.emod_lt_of_pos x1 hm2I;have:=Int.emod_nonneg x1 (show (m:Int)≠0 by omega);omega⟩
       have HP:=Lib.hid (fun W=>pick_any x1 (m:Int) W hm2I (by omega))
       rw [hqn] at HP
       obtain ⟨bb,oo,f,hA,hfl,hfo,hfc⟩:=HI1.out.row.get qn (by have:=HM.out;omega)
       subst hA
       obtain ⟨fk,fid,foff,fa,fb,fno,ffin,fA,fn,fc,fA2,fn2,fc2⟩:=f
       have d0:w1.cell? ⟨bb,oo+qn * 9,none⟩=some (.int .i64 fk):=hfc 0 _ rfl
       have d1:w1.cell? ⟨bb,oo+qn * 9+1,none⟩=some (.int .i64 fid):=hfc 1 _ rfl
       have d2:w1.cell? ⟨bb,oo+qn * 9+2,none⟩=some (.int .i64 foff):=hfc 2 _ rfl
       have d3:w1.cell? ⟨bb,oo+qn * 9+3,none⟩=some (.int .i64 fa):=hfc 3 _ rfl
       have d4:w1.cell? ⟨bb,oo+qn * 9+4,none⟩=some (.int .i64 fb):=hfc 4 _ rfl
       have d5:w1.cell? ⟨bb,oo+qn * 9+5,none⟩=some (.int .i64 fno):=hfc 5 _ rfl
       have d6:w1.cell? ⟨bb,oo+qn * 9+6,none⟩=some (.bool ffin):=hfc 6 _ rfl
       have d7:w1.cell? ⟨bb,oo+qn * 9+7,none⟩=some (.slice fA fn fc):=hfc 7 _ rfl
       have d8:w1.cell? ⟨bb,oo+qn * 9+8,none⟩=some (.slice fA2 fn2 fc2):=hfc 8 _ rfl
       have hqI:(qn:Int)<(m:Int):=by omega
       have HFO:=Lib.hid hfo
       clear hqn hfc hfl hfo hm0
       go_wp2_with fail
       refine (HP.out _).mono ?_;rintro e w' ⟨rfl,hw'⟩;subst hw'
       go_upto_region 46 with (fail)
       clear d0 d1 d2 d3 d4 d5 d6 d7 d8 g1
       obtain ⟨w2,hw2⟩:∃ x,w1.alloc (.cells #[.int .i64 fk,.int .i64 fid,.int .i64 foff,.int .i64 fa,.int .i64 fb,.int .i64 fno,.bool ffin,.slice fA fn fc,.slice fA2 fn2 fc2] 54)=x:=⟨_,rfl⟩
       obtain ⟨gf,hg2⟩:∃ x,w1.heap.size=x:=⟨_,rfl⟩
       have hAl:=HI1.out.laid (.cells #[.int .i64 fk,.int .i64 fid,.int .i64 foff,.int .i64 fa,.int .i64 fb,.int .i64 fno,.bool ffin,.slice fA fn fc,.slice fA2 fn2 fc2] 54)
       have hOl:=HO1.out.below ((Below.refl _ _).alloc (Nat.le_refl _) (.cells #[.int .i64 fk,.int .i64 fid,.int .i64 foff,.int .i64 fa,.int .i64 fb,.int .i64 fno,.bool ffin,.slice fA fn fc,.slice fA2 fn2 fc2] 54))
       rw [hw2,hg2] at hAl
       rw [hw2] at hOl
       have HI2:=Lib.hid hAl.1
       have HX2:=Lib.hid hAl.2
       have HO2:=Lib.hid hOl
       rw [hw2,hg2]
       clear hw2 hg2 hAl hOl
       have z0:=cell_slot (o:=0) HX2.out.hp rfl
       have z1:=cell_slot (o:=1) HX2.out.hp rfl
       have z2:=cell_slot (o:=2) HX2.out.hp rfl
       have z3:=cell_slot (o:=3) HX2.out.hp rfl
       have z4:=cell_slot (o:=4) HX2.out.hp rfl
       have z5:=cell_slot (o:=5) HX2.out.hp rfl
       have z6:=cell_slot (o:=6) HX2.out.hp rfl
       have z7:=cell_slot (o:=7) HX2.out.hp rfl
       have z8:=cell_slot (o:=8) HX2.out.hp rfl
       have HC:=Lib.hid (lost_st HI2.out.st HOK.out fk fid foff fa fb fno ffin fA fn fc fA2 fn2 fc2 HFO.out.1 HFO.out.2)
       go_wp2_with fail
       refine HC.out.mono ?_
       rintro e w8 ⟨rfl,hs8⟩
       obtain ⟨F8,a8,b8,c8,hI8,hO8⟩:=HI2.out.goP hs8
       have HI8:=Lib.hid hI8
       have HX8:=Lib.hid (hO8 _ _ HX2.out)
       clear hI8 hO8 hs8 HC z0 z1 z2 z3 z4 z5 z6 z7 z8
       have z0:=cell_slot (o:=0) HX8.out.hp rfl
       have z1:=cell_slot (o:=1) HX8.out.hp rfl
       have z2:=cell_slot (o:=2) HX8.out.hp rfl
       have z3:=cell_slot (o:=3) HX8.out.hp rfl
       have z4:=cell_slot (o:=4) HX8.out.hp rfl
       have z5:=cell_slot (o:=5) HX8.out.hp rfl
       have z6:=cell_slot (o:=6) HX8.out.hp rfl
       have z7:=cell_slot (o:=7) HX8.out.hp rfl
       have z8:=cell_slot (o:=8) HX8.out.hp rfl
       have HD:=Lib.hid (rlost_st HI8.out.rf HOK.out fk fid foff fa fb fno ffin fA fn fc fA2 fn2 fc2 HFO.out.1 HFO.out.2)
       go_wp2_with fail
       refine HD.out.mono ?_
       rintro e w9 ⟨rfl,hs9⟩
       obtain ⟨G9,d9,e9,f9,hI9,hO9⟩:=HI8.out.goR hs9
       have HI9:=Lib.hid hI9
       clear hI9 hO9 hs9 HD z0 z1 z2 z3 z4 z5 z6 z7 z8
       have HJ:Hid (TellJ w _ p q id (j+1) _):=⟨_,_,_,_,_,_,_,_,_,_,HI9.out.succ,(HOK.out.lose _),((lost_id _ _).trans HSI.out)⟩
       go_wp2_with fail
       go_meet
       exact HJ
    have h7b:(k == 7)=false:=by simpa using h7
    clear h7
    by_cases h8:k=8
    ·subst h8
     clear hp16
     as_aux_lemma =>
      have g1:=cell_slot (o:=1) HO1.out.hp rfl
      by_cases hm0:m=0
      ·subst hm0
       clear g1
       have HJ:Hid (TellJ w _ p q id (j+1) _):=⟨_,_,_,_,_,_,_,_,_,_,HI1.out.succ,HOK.out,HSI.out⟩
       go_wp2_with fail
       go_meet
       exact HJ
      ·have hm1I:decide (0<m)=true:=decide_eq_true (by omega)
       have hm2I:0<(m:Int):=by omega
       obtain ⟨qn,hqn,hqm⟩:∃ q:Nat,x1 % (m:Int)=(q:Int)∧q<m:=⟨(x1 % (m:Int)).toNat,by have:=Int.emod_nonneg x1 (show (m:Int)≠0 by omega);omega,by have:=Int.emod_lt_of_pos x1 hm2I;have:=Int.emod_nonneg x1 (show (m:Int)≠0 by omega);omega⟩
       have HP:=Lib.hid (fun W=>pick_any x1 (m:Int) W hm2I (by omega))
       rw [hqn] at HP
       obtain ⟨bb,oo,f,hA,hfl,hfo,hfc⟩:=HI1.out.row.get qn (by have:=HM.out;omega)
       subst hA
       obtain ⟨fk,fid,foff,fa,fb,fno,ffin,fA,fn,fc,fA2,fn2,fc2⟩:=f
       have d0:w1.cell? ⟨bb,oo+qn * 9,none⟩=some (.int .i64 fk):=hfc 0 _ rfl
       have d1:w1.cell? ⟨bb,oo+qn * 9+1,none⟩=some (.int .i64 fid):=hfc 1 _ rfl
       have d2:w1.cell? ⟨bb,oo+qn * 9+2,none⟩=some (.int .i64 foff):=hfc 2 _ rfl
       have d3:w1.cell? ⟨bb,oo+qn * 9+3,none⟩=some (.int .i64 fa):=hfc 3 _ rfl
       have d4:w1.cell? ⟨bb,oo+qn * 9+4,none⟩=some (.int .i64 fb):=hfc 4 _ rfl
       have d5:w1.cell? ⟨bb,oo+qn * 9+5,none⟩=some (.int .i64 fno):=hfc 5 _ rfl
       have d6:w1.cell? ⟨bb,oo+qn * 9+6,none⟩=some (.bool ffin):=hfc 6 _ rfl
       have d7:w1.cell? ⟨bb,oo+qn * 9+7,none⟩=some (.slice fA fn fc):=hfc 7 _ rfl
       have d8:w1.cell? ⟨bb,oo+qn * 9+8,none⟩=some (.slice fA2 fn2 fc2):=hfc 8 _ rfl
       have hqI:(qn:Int)<(m:Int):=by omega
       have HFO:=Lib.hid hfo
       clear hqn hfc hfl hfo hm0
       go_wp2_with fail
       refine (HP.out _).mono ?_;rintro e w' ⟨rfl,hw'⟩;subst hw'
       go_upto_region 52 with (fail)
       clear d0 d1 d2 d3 d4 d5 d6 d7 d8 g1
       obtain ⟨w2,hw2⟩:∃ x,w1.alloc (.cells #[.int .i64 fk,.int .i64 fid,.int .i64 foff,.int .i64 fa,.int .i64 fb,.int .i64 fno,.bool ffin,.slice fA fn fc,.slice fA2 fn2 fc2] 54)=x:=⟨_,rfl⟩
       obtain ⟨gf,hg2⟩:∃ x,w1.heap.size=x:=⟨_,rfl⟩
       have hAl:=HI1.out.laid (.cells #[.int .i64 fk,.int .i64 fid,.int .i64 foff,.int .i64 fa,.int .i64 fb,.int .i64 fno,.bool ffin,.slice fA fn fc,.slice fA2 fn2 fc2] 54)
       have hOl:=HO1.out.below ((Below.refl _ _).alloc (Nat.le_refl _) (.cells #[.int .i64 fk,.int .i64 fid,.int .i64 foff,.int .i64 fa,.int .i64 fb,.int .i64 fno,.bool ffin,.slice fA fn fc,.slice fA2 fn2 fc2] 54))
       rw [hw2,hg2] at hAl
       rw [hw2] at hOl
       have HI2:=Lib.hid hAl.1
       have HX2:=Lib.hid hAl.2
       have HO2:=Lib.hid hOl
       rw [hw2,hg2]
       clear hw2 hg2 hAl hOl
       have z0:=cell_slot (o:=0) HX2.out.hp rfl
       have z1:=cell_slot (o:=1) HX2.out.hp rfl
       have z2:=cell_slot (o:=2) HX2.out.hp rfl
       have z3:=cell_slot (o:=3) HX2.out.hp rfl
       have z4:=cell_slot (o:=4) HX2.out.hp rfl
       have z5:=cell_slot (o:=5) HX2.out.hp rfl
       have z6:=cell_slot (o:=6) HX2.out.hp rfl
       have z7:=cell_slot (o:=7) HX2.out.hp rfl
       have z8:=cell_slot (o:=8) HX2.out.hp rfl
       have HC:=Lib.hid (acked_st HI2.out.st HOK.out fk fid foff fa fb fno ffin fA fn fc fA2 fn2 fc2 HFO.out.1 HFO.out.2)
       go_wp2_with fail
       refine HC.out.mono ?_
       rintro e w8 ⟨rfl,hs8⟩
       obtain ⟨F8,a8,b8,c8,hI8,hO8⟩:=HI2.out.goP hs8
       have HI8:=Lib.hid hI8
       have HX8:=Lib.hid (hO8 _ _ HX2.out)
       clear hI8 hO8 hs8 HC z0 z1 z2 z3 z4 z5 z6 z7 z8
       have z0:=cell_slot (o:=0) HX8.out.hp rfl
       have z1:=cell_slot (o:=1) HX8.out.hp rfl
       have z2:=cell_slot (o:=2) HX8.out.hp rfl
       have z3:=cell_slot (o:=3) HX8.out.hp rfl
       have z4:=cell_slot (o:=4) HX8.out.hp rfl
       have z5:=cell_slot (o:=5) HX8.out.hp rfl
       have z6:=cell_slot (o:=6) HX8.out.hp rfl
       have z7:=cell_slot (o:=7) HX8.out.hp rfl
       have z8:=cell_slot (o:=8) HX8.out.hp rfl
       have HD:=Lib.hid (racked_st HI8.out.rf HOK.out fk fid foff fa fb fno ffin fA fn fc fA2 fn2 fc2 HFO.out.1 HFO.out.2)
       go_wp2_with fail
       refine HD.out.mono ?_
       rintro e w9 ⟨rfl,hs9⟩
       obtain ⟨G9,d9,e9,f9,hI9,hO9⟩:=HI8.out.goR hs9
       have HI9:=Lib.hid hI9
       clear hI9 hO9 hs9 HD z0 z1 z2 z3 z4 z5 z6 z7 z8
       have HJ:Hid (TellJ w _ p q id (j+1) _):=⟨_,_,_,_,_,_,_,_,_,_,HI9.out.succ,(HOK.out.ack _),((ack_id _ _).trans HSI.out)⟩
       go_wp2_with fail
       go_meet
       exact HJ
    have h8b:(k == 8)=false:=by simpa using h8
    clear h8
    by_cases h9:k=9
    ·subst h9
     clear hp16
     as_aux_lemma =>
      have g1:=cell_slot (o:=1) HO1.out.hp rfl
      by_cases hm0:m=0
      ·subst hm0
       clear g1
       have HJ:Hid (TellJ w _ p q id (j+1) _):=⟨_,_,_,_,_,_,_,_,_,_,HI1.out.succ,HOK.out,HSI.out⟩
       go_wp2_with fail
       go_meet
       exact HJ
      ·have hm1I:decide (0<m)=true:=decide_eq_true (by omega)
       have hm2I:0<(m:Int):=by omega
       obtain ⟨qn,hqn,hqm⟩:∃ q:Nat,x1 % (m:Int)=(q:Int)∧q<m:=⟨(x1 % (m:Int)).toNat,by have:=Int.emod_nonneg x1 (show (m:Int)≠0 by omega);omega,by have:=Int.emod_lt_of_pos x1 hm2I;have:=Int.emod_nonneg x1 (show (m:Int)≠0 by omega);omega⟩
       have HP:=Lib.hid (fun W=>pick_any x1 (m:Int) W hm2I (by omega))
       rw [hqn] at HP
       obtain ⟨bb,oo,f,hA,hfl,hfo,hfc⟩:=HI1.out.row.get qn (by have:=HM.out;omega)
       subst hA
       obtain ⟨fk,fid,foff,fa,fb,fno,ffin,fA,fn,fc,fA2,fn2,fc2⟩:=f
       have d0:w1.cell? ⟨bb,oo+qn * 9,none⟩=some (.int .i64 fk):=hfc 0 _ rfl
       have d1:w1.cell? ⟨bb,oo+qn * 9+1,none⟩=some (.int .i64 fid):=hfc 1 _ rfl
       have d2:w1.cell? ⟨bb,oo+qn * 9+2,none⟩=some (.int .i64 foff):=hfc 2 _ rfl
       have d3:w1.cell? ⟨bb,oo+qn * 9+3,none⟩=some (.int .i64 fa):=hfc 3 _ rfl
       have d4:w1.cell? ⟨bb,oo+qn * 9+4,none⟩=some (.int .i64 fb):=hfc 4 _ rfl
       have d5:w1.cell? ⟨bb,oo+qn * 9+5,none⟩=some (.int .i64 fno):=hfc 5 _ rfl
       have d6:w1.cell? ⟨bb,oo+qn * 9+6,none⟩=some (.bool ffin):=hfc 6 _ rfl
       have d7:w1.cell? ⟨bb,oo+qn * 9+7,none⟩=some (.slice fA fn fc):=hfc 7 _ rfl
       have d8:w1.cell? ⟨bb,oo+qn * 9+8,none⟩=some (.slice fA2 fn2 fc2):=hfc 8 _ rfl
       have hqI:(qn:Int)<(m:Int):=by omega
       have HFO:=Lib.hid hfo
       clear hqn hfc hfl hfo hm0
       go_wp2_with fail
       refine (HP.out _).mono ?_;rintro e w' ⟨rfl,hw'⟩;subst hw'
       go_upto_region 52 with (fail)
       clear d0 d1 d2 d3 d4 d5 d6 d7 d8 g1
       obtain ⟨w2,hw2⟩:∃ x,w1.alloc (.cells #[.int .i64 fk,.int .i64 fid,.int .i64 foff,.int .i64 fa,.int .i64 fb,.int .i64 fno,.bool ffin,.slice fA fn fc,.slice fA2 fn2 fc2] 54)=x:=⟨_,rfl⟩
       obtain ⟨gf,hg2⟩:∃ x,w1.heap.size=x:=⟨_,rfl⟩
       have hAl:=HI1.out.laid (.cells #[.int .i64 fk,.int .i64 fid,.int .i64 foff,.int .i64 fa,.int .i64 fb,.int .i64 fno,.bool ffin,.slice fA fn fc,.slice fA2 fn2 fc2] 54)
       have hOl:=HO1.out.below ((Below.refl _ _).alloc (Nat.le_refl _) (.cells #[.int .i64 fk,.int .i64 fid,.int .i64 foff,.int .i64 fa,.int .i64 fb,.int .i64 fno,.bool ffin,.slice fA fn fc,.slice fA2 fn2 fc2] 54))
       rw [hw2,hg2] at hAl
       rw [hw2] at hOl
       have HI2:=Lib.hid hAl.1
       have HX2:=Lib.hid hAl.2
       have HO2:=Lib.hid hOl
       rw [hw2,hg2]
       clear hw2 hg2 hAl hOl
       have z0:=cell_slot (o:=0) HX2.out.hp rfl
       have z1:=cell_slot (o:=1) HX2.out.hp rfl
       have z2:=cell_slot (o:=2) HX2.out.hp rfl
       have z3:=cell_slot (o:=3) HX2.out.hp rfl
       have z4:=cell_slot (o:=4) HX2.out.hp rfl
       have z5:=cell_slot (o:=5) HX2.out.hp rfl
       have z6:=cell_slot (o:=6) HX2.out.hp rfl
       have z7:=cell_slot (o:=7) HX2.out.hp rfl
       have z8:=cell_slot (o:=8) HX2.out.hp rfl
       have HC:=Lib.hid (acked_st HI2.out.st HOK.out fk fid foff fa fb fno ffin fA fn fc fA2 fn2 fc2 HFO.out.1 HFO.out.2)
       go_wp2_with fail
       refine HC.out.mono ?_
       rintro e w8 ⟨rfl,hs8⟩
       obtain ⟨F8,a8,b8,c8,hI8,hO8⟩:=HI2.out.goP hs8
       have HI8:=Lib.hid hI8
       have HX8:=Lib.hid (hO8 _ _ HX2.out)
       clear hI8 hO8 hs8 HC z0 z1 z2 z3 z4 z5 z6 z7 z8
       have z0:=cell_slot (o:=0) HX8.out.hp rfl
       have z1:=cell_slot (o:=1) HX8.out.hp rfl
       have z2:=cell_slot (o:=2) HX8.out.hp rfl
       have z3:=cell_slot (o:=3) HX8.out.hp rfl
       have z4:=cell_slot (o:=4) HX8.out.hp rfl
       have z5:=cell_slot (o:=5) HX8.out.hp rfl
       have z6:=cell_slot (o:=6) HX8.out.hp rfl
       have z7:=cell_slot (o:=7) HX8.out.hp rfl
       have z8:=cell_slot (o:=8) HX8.out.hp rfl
       have HD:=Lib.hid (racked_st HI8.out.rf HOK.out fk fid foff fa fb fno ffin fA fn fc fA2 fn2 fc2 HFO.out.1 HFO.out.2)
       go_wp2_with fail
       refine HD.out.mono ?_
       rintro e w9 ⟨rfl,hs9⟩
       obtain ⟨G9,d9,e9,f9,hI9,hO9⟩:=HI8.out.goR hs9
       have HI9:=Lib.hid hI9
       clear hI9 hO9 hs9 HD z0 z1 z2 z3 z4 z5 z6 z7 z8
       have HJ:Hid (TellJ w _ p q id (j+1) _):=⟨_,_,_,_,_,_,_,_,_,_,HI9.out.succ,(HOK.out.ack _),((ack_id _ _).trans HSI.out)⟩
       go_wp2_with fail
       go_meet
       exact HJ
    have h9b:(k == 9)=false:=by simpa using h9
    clear h9
    by_cases h10:k=10
    ·subst h10
     clear hp16
     as_aux_lemma =>
      have g1:=cell_slot (o:=1) HO1.out.hp rfl
      have g2:=cell_slot (o:=2) HO1.out.hp rfl
      have g3:=cell_slot (o:=3) HO1.out.hp rfl
      obtain ⟨z1,hz1⟩:∃ z,x1 % 2=z:=⟨_,rfl⟩
      obtain ⟨zt,hzt⟩:∃ z,x2 % 600=z:=⟨_,rfl⟩
      obtain ⟨n,hn,hn90⟩:∃ z:Nat,x3 % 90=(z:Int)∧z<90:=⟨(x3 % 90).toNat,by omega,by omega⟩
      have HP1:Hid (∀ W,Calls Try.prog 5 #[.int .i64 x1,.int .i64 2] W fun e w'=>e=.returned (.int .i64 z1)∧w'=W):=fun W=>by
       rw [← hz1];exact (pick_any x1 2 W (by decide) (by decide)).mono fun _ _ h=>⟨h.1,h.2.symm⟩
      have HP2:Hid (∀ W,Calls Try.prog 5 #[.int .i64 x2,.int .i64 600] W fun e w'=>e=.returned (.int .i64 zt)∧w'=W):=fun W=>by
       rw [← hzt];exact (pick_any x2 600 W (by decide) (by decide)).mono fun _ _ h=>⟨h.1,h.2.symm⟩
      have HP3:Hid (∀ W,Calls Try.prog 5 #[.int .i64 x3,.int .i64 90] W fun e w'=>e=.returned (.int .i64 (n:Int))∧w'=W):=fun W=>by
       rw [← hn];exact (pick_any x3 90 W (by decide) (by decide)).mono fun _ _ h=>⟨h.1,h.2.symm⟩
      have HFO:Hid ((0≤zt∧zt≤4611686018427387903)∧n≤1099511627776):=⟨by omega,by omega⟩
      obtain ⟨fid,hfid⟩:∃ z,id+z1=z:=⟨_,rfl⟩
      have hwf:IntKind.i64.wrap (id+z1)=fid:=by rw [← hfid];exact IntWalk.i64_in _ (by omega)
      obtain ⟨fb,hfb⟩:∃ z:Bool,((x3.tmod 2) == 0)=z:=⟨_,rfl⟩
      obtain ⟨t3,ht3⟩:∃ z:Bool,((x1.tmod 3) == 0)=z:=⟨_,rfl⟩
      obtain ⟨i0,hi,hk0,hk1,hk2⟩:=info_parts infoB
      have hmk:=fun W=>run_make (P:=Try.prog) W 30 5 i0 (.int .u8 0) Try.underlying30 hi hk0 .i64 .i64 (n:Int) (n:Int) (by omega) (by omega) (by rw [hk2];omega) (by omega)
      simp only [hk1,Nat.mul_one,Int.toNat_natCast] at hmk
      obtain ⟨zc,hzc⟩:∃ x,madeCells (Value.int .u8 0).cells n=x:=⟨_,rfl⟩
      rw [hzc] at hmk
      have hnI:(n:Int)<90:=by omega
      clear hz1 hzt hn hfid hi hk0 hk1 hk2 hzc
      go_upto_region 55 with (fail)
      obtain ⟨wd,hwd⟩:∃ x,w1.drew=x:=⟨_,rfl⟩
      have HI2:Hid (SendI w wd p q j (.slice Av m cv) F v3 v4 v5 G u1 u8 u9 s s l):=by rw [← hwd];exact HI1.out.below ((Below.refl _ _).drew)
      have HO2:Hid (Off wd g F G (.slice Av m cv) (.cells #[.int .i64 x0,.int .i64 x1,.int .i64 x2,.int .i64 x3,.slice A4 x4.length c4] 32 (0,0))):=by rw [← hwd];exact HO1.out.below ((Below.refl _ _).drew)
      have HSB:Hid (∀ W,Below wd.heap.size wd W→(fun W:World=>W.cell? ⟨g,1,none⟩=some (.int .i64 x1)∧W.cell? ⟨g,2,none⟩=some (.int .i64 x2)∧W.cell? ⟨g,3,none⟩=some (.int .i64 x3)) W):=fun W hW=>have hO:=HO2.out.below hW;⟨cell_slot (o:=1) hO.hp rfl,cell_slot (o:=2) hO.hp rfl,cell_slot (o:=3) hO.hp rfl⟩
      clear g1 g2 g3
      refine wp_region_held_drew (S:=(fun W:World=>W.cell? ⟨g,1,none⟩=some (.int .i64 x1)∧W.cell? ⟨g,2,none⟩=some (.int .i64 x2)∧W.cell? ⟨g,3,none⟩=some (.int .i64 x3))) (by kernel_rfl) ?_ (fun hHeld=>?_)
      ·exact (hwd ▸ HSB.out _ (Below.refl _ _))
      rw [hwd] at hHeld ⊢
      clear hwd
      refine wpAnyH_take (i:=0) (v:=?_) rfl (by kernel_rfl) (by kernel_rfl) (by kernel_rfl) (fun _ _ _ h=>h) (Or.inl ⟨by rfl,?_⟩) (by assumption) ?_
      rotate_left
      ·intro w hSw;(try dsimp only at hSw);go_simp;try with_reducible rfl
      go_simp
      refine wpAnyH_take (i:=1) (v:=?_) rfl (by kernel_rfl) (by kernel_rfl) (by kernel_rfl) (fun _ _ _ h=>h) (Or.inl ⟨by rfl,?_⟩) (by assumption) ?_
      rotate_left
      ·intro w hSw;(try dsimp only at hSw);go_simp;try with_reducible rfl
      go_simp
      refine wpAnyH_take (i:=2) (v:=?_) rfl (by kernel_rfl) (by kernel_rfl) (by kernel_rfl) (fun _ _ _ h=>h) (Or.inl ⟨by rfl,?_⟩) (by assumption) ?_
      rotate_left
      ·intro w hSw;(try dsimp only at hSw);go_simp;try with_reducible rfl
      go_simp
      refine Lc.take_call (i:=3) (v:=_) rfl (by kernel_rfl) (by kernel_rfl) (by kernel_rfl) (fun _ _ _ h=>h) ⟨by rfl,fun wS hSw=>⟨5,#[.int .i64 x1,.int .i64 2],?_,HP1.out wS⟩⟩ (by assumption) ?_
      ·go_simp;try with_reducible rfl
      go_simp
      refine wpAnyH_take (i:=4) (v:=?_) rfl (by kernel_rfl) (by kernel_rfl) (by kernel_rfl) (fun _ _ _ h=>h) (Or.inl ⟨by rfl,?_⟩) (by assumption) ?_
      rotate_left
      ·intro w hSw;(try dsimp only at hSw);go_simp;try with_reducible rfl
      go_simp
      refine wpAnyH_take (i:=5) (v:=?_) rfl (by kernel_rfl) (by kernel_rfl) (by kernel_rfl) (fun _ _ _ h=>h) (Or.inl ⟨by rfl,?_⟩) (by assumption) ?_
      rotate_left
      ·intro w hSw;(try dsimp only at hSw);go_simp;try with_reducible rfl
      go_simp
      refine wpAnyH_take (i:=6) (v:=?_) rfl (by kernel_rfl) (by kernel_rfl) (by kernel_rfl) (fun _ _ _ h=>h) (Or.inl ⟨by rfl,?_⟩) (by assumption) ?_
      rotate_left
      ·intro w hSw;(try dsimp only at hSw);go_simp;try with_reducible rfl
      go_simp
      refine Lc.take_call (i:=7) (v:=_) rfl (by kernel_rfl) (by kernel_rfl) (by kernel_rfl) (fun _ _ _ h=>h) ⟨by rfl,fun wS hSw=>⟨5,#[.int .i64 x2,.int .i64 600],?_,HP2.out wS⟩⟩ (by assumption) ?_
      ·go_simp;try with_reducible rfl
      go_simp
      refine wpAnyH_take (i:=8) (v:=?_) rfl (by kernel_rfl) (by kernel_rfl) (by kernel_rfl) (fun _ _ _ h=>h) (Or.inl ⟨by rfl,?_⟩) (by assumption) ?_
      rotate_left
      ·intro w hSw;(try dsimp only at hSw);go_simp;try with_reducible rfl
      go_simp
      refine wpAnyH_take (i:=9) (v:=?_) rfl (by kernel_rfl) (by kernel_rfl) (by kernel_rfl) (fun _ _ _ h=>h) (Or.inl ⟨by rfl,?_⟩) (by assumption) ?_
      rotate_left
      ·intro w hSw;(try dsimp only at hSw);go_simp;try with_reducible rfl
      go_simp
      refine wpAnyH_take (i:=10) (v:=?_) rfl (by kernel_rfl) (by kernel_rfl) (by kernel_rfl) (fun _ _ _ h=>h) (Or.inl ⟨by rfl,?_⟩) (by assumption) ?_
      rotate_left
      ·intro w hSw;(try dsimp only at hSw);go_simp;try with_reducible rfl
      go_simp
      refine wpAnyH_take (i:=11) (v:=?_) rfl (by kernel_rfl) (by kernel_rfl) (by kernel_rfl) (fun _ _ _ h=>h) (Or.inl ⟨by rfl,?_⟩) (by assumption) ?_
      rotate_left
      ·intro w hSw;(try dsimp only at hSw);go_simp;try with_reducible rfl
      go_simp
      refine wpAnyH_take (i:=12) (v:=?_) rfl (by kernel_rfl) (by kernel_rfl) (by kernel_rfl) (fun _ _ _ h=>h) (Or.inl ⟨by rfl,?_⟩) (by assumption) ?_
      rotate_left
      ·intro w hSw;(try dsimp only at hSw);go_simp;try with_reducible rfl
      go_simp
      refine wpAnyH_take (i:=13) (v:=?_) rfl (by kernel_rfl) (by kernel_rfl) (by kernel_rfl) (fun _ _ _ h=>h) (Or.inl ⟨by rfl,?_⟩) (by assumption) ?_
      rotate_left
      ·intro w hSw;(try dsimp only at hSw);go_simp;try with_reducible rfl
      go_simp
      refine Lc.take_call (i:=14) (v:=_) rfl (by kernel_rfl) (by kernel_rfl) (by kernel_rfl) (fun _ _ _ h=>h) ⟨by rfl,fun wS hSw=>⟨5,#[.int .i64 x3,.int .i64 90],?_,HP3.out wS⟩⟩ (by assumption) ?_
      ·go_simp;try with_reducible rfl
      go_simp
      refine wpAnyH_ready (rs:=[15,17]) (by kernel_rfl) (by simp) ?_
      refine AllReadyH.cons rfl (fun K hK=>?_) ?_
      ·skip
       go_simp
       refine hK.out _ _ ?_ (fun hHeld=>?_)
       ·exact HSB.out _ ((Below.refl wd.heap.size wd).alloc (Nat.le_refl _) _)
       clear hK K
       go_simp
       refine wpAnyH_take (i:=16) (v:=?_) rfl (by kernel_rfl) (by kernel_rfl) (by kernel_rfl) (fun _ _ _ h=>h) (Or.inl ⟨by rfl,?_⟩) (by assumption) ?_
       rotate_left
       ·intro w hSw;(try dsimp only at hSw);go_simp;try with_reducible rfl
       go_simp
       refine wpAnyH_ready (rs:=[17]) (by kernel_rfl) (by simp) ?_
       refine AllReadyH.cons rfl (fun K hK=>?_) AllReadyH.nil
       go_simp
       refine hK.out _ _ ?_ (fun hHeld=>?_)
       ·exact HSB.out _ (((Below.refl wd.heap.size wd).alloc (Nat.le_refl _) _).alloc (by simp) _)
       clear hK K
       go_simp
       refine wpAnyH_ready (rs:=[18]) (by kernel_rfl) (by simp) ?_
       refine AllReadyH.cons rfl (fun K hK=>?_) AllReadyH.nil
       go_simp
       refine hK.out _ _ ?_ (fun hHeld=>?_)
       ·exact HSB.out _ (((Below.refl wd.heap.size wd).alloc (Nat.le_refl _) _).alloc (by simp) _)
       clear hK K
       go_simp
       refine wpAnyH_done (by kernel_rfl) ?_ _
       have HX5:Hid ((((wd.alloc (.cells zc 5)).alloc (.cells #[.int .i64 3,.int .i64 fid,.int .i64 zt,.int .i64 0,.int .i64 0,.int .i64 0,.bool fb,.slice (some ⟨wd.heap.size,0,none⟩) n n,.slice none 0 0] 54))).heap[(wd.heap.size+1)]?=some (.cells #[.int .i64 3,.int .i64 fid,.int .i64 zt,.int .i64 0,.int .i64 0,.int .i64 0,.bool fb,.slice (some ⟨wd.heap.size,0,none⟩) n n,.slice none 0 0] 54 (0,0))):=Lib.hid (by have:=heap_alloc_new (wd.alloc (.cells zc 5)) (.cells #[.int .i64 3,.int .i64 fid,.int .i64 zt,.int .i64 0,.int .i64 0,.int .i64 0,.bool fb,.slice (some ⟨wd.heap.size,0,none⟩) n n,.slice none 0 0] 54);simpa using this)
       have HB5:Below wd.heap.size wd (((wd.alloc (.cells zc 5)).alloc (.cells #[.int .i64 3,.int .i64 fid,.int .i64 zt,.int .i64 0,.int .i64 0,.int .i64 0,.bool fb,.slice (some ⟨wd.heap.size,0,none⟩) n n,.slice none 0 0] 54))):=(((Below.refl wd.heap.size wd).alloc (Nat.le_refl _) _).alloc (by simp) _)
       obtain ⟨wz,hwz⟩:∃ x,((wd.alloc (.cells zc 5)).alloc (.cells #[.int .i64 3,.int .i64 fid,.int .i64 zt,.int .i64 0,.int .i64 0,.int .i64 0,.bool fb,.slice (some ⟨wd.heap.size,0,none⟩) n n,.slice none 0 0] 54))=x:=⟨_,rfl⟩
       rw [hwz] at HX5 HB5
       have HX2:=Lib.hid (HI2.out.far HB5 (show wd.heap.size≤(wd.heap.size+1) by simp) HX5.out)
       have HI3:=Lib.hid (HI2.out.below HB5)
       have HO3:=Lib.hid (HO2.out.below HB5)
       obtain ⟨gf,hgf⟩:∃ x,(wd.heap.size+1)=x:=⟨_,rfl⟩
       obtain ⟨gz,hgz⟩:∃ x,wd.heap.size=x:=⟨_,rfl⟩
       rw [hgf,hgz] at HX2
       rw [hwz,hgf,hgz]
       clear hwz hgf hgz HX5 HB5 HSB hmk
       have g1:=cell_slot (o:=1) HO3.out.hp rfl
       go_upto_if 257 with (fail)
       cases t3
       ·clear g1
        have z0:=cell_slot (o:=0) HX2.out.hp rfl
        have z1:=cell_slot (o:=1) HX2.out.hp rfl
        have z2:=cell_slot (o:=2) HX2.out.hp rfl
        have z3:=cell_slot (o:=3) HX2.out.hp rfl
        have z4:=cell_slot (o:=4) HX2.out.hp rfl
        have z5:=cell_slot (o:=5) HX2.out.hp rfl
        have z6:=cell_slot (o:=6) HX2.out.hp rfl
        have z7:=cell_slot (o:=7) HX2.out.hp rfl
        have z8:=cell_slot (o:=8) HX2.out.hp rfl
        have HC:=Lib.hid (lost_st HI3.out.st HOK.out 3 fid zt 0 0 0 fb (some ⟨gz,0,none⟩) n n none 0 0 HFO.out.1 HFO.out.2)
        go_wp2_with fail
        refine HC.out.mono ?_
        rintro e w8 ⟨rfl,hs8⟩
        obtain ⟨F8,a8,b8,c8,hI8,hO8⟩:=HI3.out.goP hs8
        have HI8:=Lib.hid hI8
        have HX8:=Lib.hid (hO8 _ _ HX2.out)
        clear hI8 hO8 hs8 HC z0 z1 z2 z3 z4 z5 z6 z7 z8
        have z0:=cell_slot (o:=0) HX8.out.hp rfl
        have z1:=cell_slot (o:=1) HX8.out.hp rfl
        have z2:=cell_slot (o:=2) HX8.out.hp rfl
        have z3:=cell_slot (o:=3) HX8.out.hp rfl
        have z4:=cell_slot (o:=4) HX8.out.hp rfl
        have z5:=cell_slot (o:=5) HX8.out.hp rfl
        have z6:=cell_slot (o:=6) HX8.out.hp rfl
        have z7:=cell_slot (o:=7) HX8.out.hp rfl
        have z8:=cell_slot (o:=8) HX8.out.hp rfl
        have HD:=Lib.hid (rlost_st HI8.out.rf HOK.out 3 fid zt 0 0 0 fb (some ⟨gz,0,none⟩) n n none 0 0 HFO.out.1 HFO.out.2)
        go_wp2_with fail
        refine HD.out.mono ?_
        rintro e w9 ⟨rfl,hs9⟩
        obtain ⟨G9,d9,e9,f9,hI9,hO9⟩:=HI8.out.goR hs9
        have HI9:=Lib.hid hI9
        clear hI9 hO9 hs9 HD z0 z1 z2 z3 z4 z5 z6 z7 z8
        have HJ:Hid (TellJ w _ p q id (j+1) _):=⟨_,_,_,_,_,_,_,_,_,_,HI9.out.succ,(HOK.out.lose _),((lost_id _ _).trans HSI.out)⟩
        go_wp2_with fail
        go_meet
        exact HJ
       ·clear g1
        have z0:=cell_slot (o:=0) HX2.out.hp rfl
        have z1:=cell_slot (o:=1) HX2.out.hp rfl
        have z2:=cell_slot (o:=2) HX2.out.hp rfl
        have z3:=cell_slot (o:=3) HX2.out.hp rfl
        have z4:=cell_slot (o:=4) HX2.out.hp rfl
        have z5:=cell_slot (o:=5) HX2.out.hp rfl
        have z6:=cell_slot (o:=6) HX2.out.hp rfl
        have z7:=cell_slot (o:=7) HX2.out.hp rfl
        have z8:=cell_slot (o:=8) HX2.out.hp rfl
        have HC:=Lib.hid (acked_st HI3.out.st HOK.out 3 fid zt 0 0 0 fb (some ⟨gz,0,none⟩) n n none 0 0 HFO.out.1 HFO.out.2)
        go_wp2_with fail
        refine HC.out.mono ?_
        rintro e w8 ⟨rfl,hs8⟩
        obtain ⟨F8,a8,b8,c8,hI8,hO8⟩:=HI3.out.goP hs8
        have HI8:=Lib.hid hI8
        have HX8:=Lib.hid (hO8 _ _ HX2.out)
        clear hI8 hO8 hs8 HC z0 z1 z2 z3 z4 z5 z6 z7 z8
        have z0:=cell_slot (o:=0) HX8.out.hp rfl
        have z1:=cell_slot (o:=1) HX8.out.hp rfl
        have z2:=cell_slot (o:=2) HX8.out.hp rfl
        have z3:=cell_slot (o:=3) HX8.out.hp rfl
        have z4:=cell_slot (o:=4) HX8.out.hp rfl
        have z5:=cell_slot (o:=5) HX8.out.hp rfl
        have z6:=cell_slot (o:=6) HX8.out.hp rfl
        have z7:=cell_slot (o:=7) HX8.out.hp rfl
        have z8:=cell_slot (o:=8) HX8.out.hp rfl
        have HD:=Lib.hid (racked_st HI8.out.rf HOK.out 3 fid zt 0 0 0 fb (some ⟨gz,0,none⟩) n n none 0 0 HFO.out.1 HFO.out.2)
        go_wp2_with fail
        refine HD.out.mono ?_
        rintro e w9 ⟨rfl,hs9⟩
        obtain ⟨G9,d9,e9,f9,hI9,hO9⟩:=HI8.out.goR hs9
        have HI9:=Lib.hid hI9
        clear hI9 hO9 hs9 HD z0 z1 z2 z3 z4 z5 z6 z7 z8
        have HJ:Hid (TellJ w _ p q id (j+1) _):=⟨_,_,_,_,_,_,_,_,_,_,HI9.out.succ,(HOK.out.ack _),((ack_id _ _).trans HSI.out)⟩
        go_wp2_with fail
        go_meet
        exact HJ
      refine AllReadyH.cons rfl (fun K hK=>?_) ?_
      ·skip
       go_simp
       refine hK.out _ _ ?_ (fun hHeld=>?_)
       ·exact HSB.out _ ((Below.refl wd.heap.size wd).alloc (Nat.le_refl _) _)
       clear hK K
       go_simp
       refine wpAnyH_ready (rs:=[15]) (by kernel_rfl) (by simp) ?_
       refine AllReadyH.cons rfl (fun K hK=>?_) AllReadyH.nil
       go_simp
       refine hK.out _ _ ?_ (fun hHeld=>?_)
       ·exact HSB.out _ (((Below.refl wd.heap.size wd).alloc (Nat.le_refl _) _).alloc (by simp) _)
       clear hK K
       go_simp
       refine wpAnyH_take (i:=16) (v:=?_) rfl (by kernel_rfl) (by kernel_rfl) (by kernel_rfl) (fun _ _ _ h=>h) (Or.inl ⟨by rfl,?_⟩) (by assumption) ?_
       rotate_left
       ·intro w hSw;(try dsimp only at hSw);go_simp;try with_reducible rfl
       go_simp
       refine wpAnyH_ready (rs:=[18]) (by kernel_rfl) (by simp) ?_
       refine AllReadyH.cons rfl (fun K hK=>?_) AllReadyH.nil
       go_simp
       refine hK.out _ _ ?_ (fun hHeld=>?_)
       ·exact HSB.out _ (((Below.refl wd.heap.size wd).alloc (Nat.le_refl _) _).alloc (by simp) _)
       clear hK K
       go_simp
       refine wpAnyH_done (by kernel_rfl) ?_ _
       have HX5:Hid ((((wd.alloc (.cells #[.int .i64 3,.int .i64 fid,.int .i64 zt,.int .i64 0,.int .i64 0,.int .i64 0,.bool fb,.slice (some ⟨(wd.heap.size+1),0,none⟩) n n,.slice none 0 0] 54)).alloc (.cells zc 5))).heap[wd.heap.size]?=some (.cells #[.int .i64 3,.int .i64 fid,.int .i64 zt,.int .i64 0,.int .i64 0,.int .i64 0,.bool fb,.slice (some ⟨(wd.heap.size+1),0,none⟩) n n,.slice none 0 0] 54 (0,0))):=Lib.hid ((Below.heap_alloc _ _ _ (by simp)).trans (heap_alloc_new wd (.cells #[.int .i64 3,.int .i64 fid,.int .i64 zt,.int .i64 0,.int .i64 0,.int .i64 0,.bool fb,.slice (some ⟨(wd.heap.size+1),0,none⟩) n n,.slice none 0 0] 54)))
       have HB5:Below wd.heap.size wd (((wd.alloc (.cells #[.int .i64 3,.int .i64 fid,.int .i64 zt,.int .i64 0,.int .i64 0,.int .i64 0,.bool fb,.slice (some ⟨(wd.heap.size+1),0,none⟩) n n,.slice none 0 0] 54)).alloc (.cells zc 5))):=(((Below.refl wd.heap.size wd).alloc (Nat.le_refl _) _).alloc (by simp) _)
       obtain ⟨wz,hwz⟩:∃ x,((wd.alloc (.cells #[.int .i64 3,.int .i64 fid,.int .i64 zt,.int .i64 0,.int .i64 0,.int .i64 0,.bool fb,.slice (some ⟨(wd.heap.size+1),0,none⟩) n n,.slice none 0 0] 54)).alloc (.cells zc 5))=x:=⟨_,rfl⟩
       rw [hwz] at HX5 HB5
       have HX2:=Lib.hid (HI2.out.far HB5 (show wd.heap.size≤wd.heap.size by simp) HX5.out)
       have HI3:=Lib.hid (HI2.out.below HB5)
       have HO3:=Lib.hid (HO2.out.below HB5)
       obtain ⟨gf,hgf⟩:∃ x,wd.heap.size=x:=⟨_,rfl⟩
       obtain ⟨gz,hgz⟩:∃ x,(wd.heap.size+1)=x:=⟨_,rfl⟩
       rw [hgz,hgf] at HX2
       rw [hwz,hgz,hgf]
       clear hwz hgf hgz HX5 HB5 HSB hmk
       have g1:=cell_slot (o:=1) HO3.out.hp rfl
       go_upto_if 257 with (fail)
       cases t3
       ·clear g1
        have z0:=cell_slot (o:=0) HX2.out.hp rfl
        have z1:=cell_slot (o:=1) HX2.out.hp rfl
        have z2:=cell_slot (o:=2) HX2.out.hp rfl
        have z3:=cell_slot (o:=3) HX2.out.hp rfl
        have z4:=cell_slot (o:=4) HX2.out.hp rfl
        have z5:=cell_slot (o:=5) HX2.out.hp rfl
        have z6:=cell_slot (o:=6) HX2.out.hp rfl
        have z7:=cell_slot (o:=7) HX2.out.hp rfl
        have z8:=cell_slot (o:=8) HX2.out.hp rfl
        have HC:=Lib.hid (lost_st HI3.out.st HOK.out 3 fid zt 0 0 0 fb (some ⟨gz,0,none⟩) n n none 0 0 HFO.out.1 HFO.out.2)
        go_wp2_with fail
        refine HC.out.mono ?_
        rintro e w8 ⟨rfl,hs8⟩
        obtain ⟨F8,a8,b8,c8,hI8,hO8⟩:=HI3.out.goP hs8
        have HI8:=Lib.hid hI8
        have HX8:=Lib.hid (hO8 _ _ HX2.out)
        clear hI8 hO8 hs8 HC z0 z1 z2 z3 z4 z5 z6 z7 z8
        have z0:=cell_slot (o:=0) HX8.out.hp rfl
        have z1:=cell_slot (o:=1) HX8.out.hp rfl
        have z2:=cell_slot (o:=2) HX8.out.hp rfl
        have z3:=cell_slot (o:=3) HX8.out.hp rfl
        have z4:=cell_slot (o:=4) HX8.out.hp rfl
        have z5:=cell_slot (o:=5) HX8.out.hp rfl
        have z6:=cell_slot (o:=6) HX8.out.hp rfl
        have z7:=cell_slot (o:=7) HX8.out.hp rfl
        have z8:=cell_slot (o:=8) HX8.out.hp rfl
        have HD:=Lib.hid (rlost_st HI8.out.rf HOK.out 3 fid zt 0 0 0 fb (some ⟨gz,0,none⟩) n n none 0 0 HFO.out.1 HFO.out.2)
        go_wp2_with fail
        refine HD.out.mono ?_
        rintro e w9 ⟨rfl,hs9⟩
        obtain ⟨G9,d9,e9,f9,hI9,hO9⟩:=HI8.out.goR hs9
        have HI9:=Lib.hid hI9
        clear hI9 hO9 hs9 HD z0 z1 z2 z3 z4 z5 z6 z7 z8
        have HJ:Hid (TellJ w _ p q id (j+1) _):=⟨_,_,_,_,_,_,_,_,_,_,HI9.out.succ,(HOK.out.lose _),((lost_id _ _).trans HSI.out)⟩
        go_wp2_with fail
        go_meet
        exact HJ
       ·clear g1
        have z0:=cell_slot (o:=0) HX2.out.hp rfl
        have z1:=cell_slot (o:=1) HX2.out.hp rfl
        have z2:=cell_slot (o:=2) HX2.out.hp rfl
        have z3:=cell_slot (o:=3) HX2.out.hp rfl
        have z4:=cell_slot (o:=4) HX2.out.hp rfl
        have z5:=cell_slot (o:=5) HX2.out.hp rfl
        have z6:=cell_slot (o:=6) HX2.out.hp rfl
        have z7:=cell_slot (o:=7) HX2.out.hp rfl
        have z8:=cell_slot (o:=8) HX2.out.hp rfl
        have HC:=Lib.hid (acked_st HI3.out.st HOK.out 3 fid zt 0 0 0 fb (some ⟨gz,0,none⟩) n n none 0 0 HFO.out.1 HFO.out.2)
        go_wp2_with fail
        refine HC.out.mono ?_
        rintro e w8 ⟨rfl,hs8⟩
        obtain ⟨F8,a8,b8,c8,hI8,hO8⟩:=HI3.out.goP hs8
        have HI8:=Lib.hid hI8
        have HX8:=Lib.hid (hO8 _ _ HX2.out)
        clear hI8 hO8 hs8 HC z0 z1 z2 z3 z4 z5 z6 z7 z8
        have z0:=cell_slot (o:=0) HX8.out.hp rfl
        have z1:=cell_slot (o:=1) HX8.out.hp rfl
        have z2:=cell_slot (o:=2) HX8.out.hp rfl
        have z3:=cell_slot (o:=3) HX8.out.hp rfl
        have z4:=cell_slot (o:=4) HX8.out.hp rfl
        have z5:=cell_slot (o:=5) HX8.out.hp rfl
        have z6:=cell_slot (o:=6) HX8.out.hp rfl
        have z7:=cell_slot (o:=7) HX8.out.hp rfl
        have z8:=cell_slot (o:=8) HX8.out.hp rfl
        have HD:=Lib.hid (racked_st HI8.out.rf HOK.out 3 fid zt 0 0 0 fb (some ⟨gz,0,none⟩) n n none 0 0 HFO.out.1 HFO.out.2)
        go_wp2_with fail
        refine HD.out.mono ?_
        rintro e w9 ⟨rfl,hs9⟩
        obtain ⟨G9,d9,e9,f9,hI9,hO9⟩:=HI8.out.goR hs9
        have HI9:=Lib.hid hI9
        clear hI9 hO9 hs9 HD z0 z1 z2 z3 z4 z5 z6 z7 z8
        have HJ:Hid (TellJ w _ p q id (j+1) _):=⟨_,_,_,_,_,_,_,_,_,_,HI9.out.succ,(HOK.out.ack _),((ack_id _ _).trans HSI.out)⟩
        go_wp2_with fail
        go_meet
        exact HJ
      exact AllReadyH.nil
    have h10b:(k == 10)=false:=by simpa using h10
    clear h10
    as_aux_lemma =>
     have g1:=cell_slot (o:=1) HO1.out.hp rfl
     have g2:=cell_slot (o:=2) HO1.out.hp rfl
     have HP1:=Lib.hid (fun W=>pick_any x1 180 W (by decide) (by decide))
     have HP2:=Lib.hid (fun W=>pick_any x2 200 W (by decide) (by decide))
     obtain ⟨room,hro⟩:∃ z,x1 % 180=z:=⟨_,rfl⟩
     obtain ⟨mo,hmo⟩:∃ z,x2 % 200=z:=⟨_,rfl⟩
     have hro0:0≤room∧room<180:=by omega
     have hmo0:0≤mo∧mo<200:=by omega
     rw [hro] at HP1
     rw [hmo] at HP2
     clear hro hmo
     obtain ⟨most,hmost⟩:∃ z,mo - 3=z:=⟨_,rfl⟩
     have hwm:IntKind.i64.wrap (mo - 3)=most:=by rw [← hmost];exact IntWalk.i64_in _ (by omega)
     clear hmost hp16
     go_wp2_with fail
     refine (HP1.out _).mono ?_;rintro e w' ⟨rfl,hw'⟩;subst hw'
     go_wp2_with fail
     refine (HP2.out _).mono ?_;rintro e w' ⟨rfl,hw'⟩;subst hw'
     clear g1 g2
     go_wp2_with fail
     refine (next_st HI1.out.st HOK.out room most (by omega)).mono ?_
     rintro e w2 (⟨hno,rfl,hs3⟩ | ⟨ai,ni,fin,fresh,Ad,cd,F3,b3,b4,b5,hNI,rfl,hst3,hk3,hn3,ho3,hf3⟩)
     ·as_aux_lemma =>
       obtain ⟨F2,a2,b2,c2,hI2,hO2⟩:=HI1.out.goP hs3
       have HI2:=Lib.hid hI2
       have HO2:=Lib.hid (hO2 _ _ HO1.out)
       have HNO:=Lib.hid hno
       clear hs3 hno
       clear hI2 hO2
       go_upto_region 14 with (fail)
       obtain ⟨w3,hw3⟩:∃ x,w2.alloc (.cells #[.int .i64 0,.int .i64 0,.int .i64 0,.int .i64 0,.int .i64 0,.int .i64 0,.bool false,.slice none 0 0,.slice none 0 0] 54)=x:=⟨_,rfl⟩
       obtain ⟨gf,hg3⟩:∃ x,w2.heap.size=x:=⟨_,rfl⟩
       have hAl:=HI2.out.laid (.cells #[.int .i64 0,.int .i64 0,.int .i64 0,.int .i64 0,.int .i64 0,.int .i64 0,.bool false,.slice none 0 0,.slice none 0 0] 54)
       have hOl:=HO2.out.below ((Below.refl _ _).alloc (Nat.le_refl _) (.cells #[.int .i64 0,.int .i64 0,.int .i64 0,.int .i64 0,.int .i64 0,.int .i64 0,.bool false,.slice none 0 0,.slice none 0 0] 54))
       rw [hw3,hg3] at hAl
       rw [hw3] at hOl
       have HI3:=Lib.hid hAl.1
       have HX3:=Lib.hid hAl.2
       have HO3:=Lib.hid hOl
       rw [hw3,hg3]
       clear hw3 hg3 hAl hOl
       have HD:=Lib.hid (rnext_st HI3.out.rf HOK.out room most)
       go_wp2_with fail
       refine HD.out.mono ?_
       rintro e w4 hq
       obtain ⟨rfl,hs4⟩:=next_not HNO.out hq
       obtain ⟨G4,d4,e4,f4,hI4,hO4⟩:=HI3.out.goR hs4
       have HI4:=Lib.hid hI4
       have HX4':=Lib.hid (hO4 _ _ HX3.out)
       have HO4:=Lib.hid (hO4 _ _ HO3.out)
       clear hI4 hO4 hs4 HD hq
       go_upto_region 15 with (fail)
       obtain ⟨w5,hw5⟩:∃ x,w4.alloc (.cells #[.int .i64 0,.int .i64 0,.int .i64 0,.int .i64 0,.int .i64 0,.int .i64 0,.bool false,.slice none 0 0,.slice none 0 0] 54)=x:=⟨_,rfl⟩
       obtain ⟨gh,hg5⟩:∃ x,w4.heap.size=x:=⟨_,rfl⟩
       have hAl:=HI4.out.laid (.cells #[.int .i64 0,.int .i64 0,.int .i64 0,.int .i64 0,.int .i64 0,.int .i64 0,.bool false,.slice none 0 0,.slice none 0 0] 54)
       have hOl:=HO4.out.below ((Below.refl _ _).alloc (Nat.le_refl _) (.cells #[.int .i64 0,.int .i64 0,.int .i64 0,.int .i64 0,.int .i64 0,.int .i64 0,.bool false,.slice none 0 0,.slice none 0 0] 54))
       rw [hw5,hg5] at hAl
       rw [hw5] at hOl
       have HI5:=Lib.hid hAl.1
       have hXl:=HX4'.out.below ((Below.refl _ _).alloc (Nat.le_refl _) (.cells #[.int .i64 0,.int .i64 0,.int .i64 0,.int .i64 0,.int .i64 0,.int .i64 0,.bool false,.slice none 0 0,.slice none 0 0] 54))
       rw [hw5] at hXl
       have HX6:=Lib.hid hXl
       have HX5:=Lib.hid hAl.2
       have HO5:=Lib.hid hOl
       rw [hw5,hg5]
       clear hXl hw5 hg5 hAl hOl
       have y0:=cell_slot (o:=0) HX6.out.hp rfl
       have y1:=cell_slot (o:=1) HX6.out.hp rfl
       have y2:=cell_slot (o:=2) HX6.out.hp rfl
       have y3:=cell_slot (o:=3) HX6.out.hp rfl
       have y4:=cell_slot (o:=4) HX6.out.hp rfl
       have y5:=cell_slot (o:=5) HX6.out.hp rfl
       have y6:=cell_slot (o:=6) HX6.out.hp rfl
       have y7:=cell_slot (o:=7) HX6.out.hp rfl
       have y8:=cell_slot (o:=8) HX6.out.hp rfl
       have z0:=cell_slot (o:=0) HX5.out.hp rfl
       have z1:=cell_slot (o:=1) HX5.out.hp rfl
       have z2:=cell_slot (o:=2) HX5.out.hp rfl
       have z3:=cell_slot (o:=3) HX5.out.hp rfl
       have z4:=cell_slot (o:=4) HX5.out.hp rfl
       have z5:=cell_slot (o:=5) HX5.out.hp rfl
       have z6:=cell_slot (o:=6) HX5.out.hp rfl
       have z7:=cell_slot (o:=7) HX5.out.hp rfl
       have z8:=cell_slot (o:=8) HX5.out.hp rfl
       have HSM:=Lib.hid (Sq.rsame_same 0 0 0 0 0 0 0 false [] [] w5.heap.size w5.heap.size none none none none 0 0 0 0 0 0 w5 (Rd.nil _ _ _) (Rd.nil _ _ _) (Rd.nil _ _ _) (Rd.nil _ _ _) (Nat.le_refl _) (Nat.le_refl _) (by omega) (Nat.le_refl _) (Nat.le_refl _))
       go_wp2_with fail
       refine HSM.out.mono ?_
       rintro e w7 ⟨rfl,hb7⟩
       have HI7:=Lib.hid (HI5.out.below hb7)
       have HX7:=Lib.hid (HX6.out.below hb7)
       clear hb7 HSM y0 y1 y2 y3 y4 y5 y6 y7 y8 z0 z1 z2 z3 z4 z5 z6 z7 z8
       have HJ:Hid (TellJ w _ p q id (j+1) _):=⟨_,_,_,_,_,_,_,_,_,_,HI7.out.succ,HOK.out,HSI.out⟩
       go_wp2_with fail
       go_meet
       exact HJ
     ·as_aux_lemma =>
       obtain ⟨F2,a2,b2,c2,hI2,hO2⟩:=HI1.out.goP ⟨F3,b3,b4,b5,hst3,hk3,hn3⟩
       have HI2:=Lib.hid hI2
       have HO2:=Lib.hid (hO2 _ _ HO1.out)
       have HR2:Hid (w2.ownsRow w1.heap.size 5 1 (.slice Ad ni cd) ni (bv ((s.bs.drop ai).take ni))):=ho3
       have HNI:=Lib.hid hNI
       have HNF:=Lib.hid (hNI.facts HOK.out)
       clear hst3 hk3 hn3 ho3 hf3 hNI
       clear hI2 hO2
       go_upto_region 14 with (fail)
       obtain ⟨w3,hw3⟩:∃ x,w2.alloc (.cells #[.int .i64 3,.int .i64 s.id,.int .i64 (ai:Int),.int .i64 0,.int .i64 0,.int .i64 0,.bool fin,.slice Ad ni cd,.slice none 0 0] 54)=x:=⟨_,rfl⟩
       obtain ⟨gf,hg3⟩:∃ x,w2.heap.size=x:=⟨_,rfl⟩
       have hAl:=HI2.out.laid (.cells #[.int .i64 3,.int .i64 s.id,.int .i64 (ai:Int),.int .i64 0,.int .i64 0,.int .i64 0,.bool fin,.slice Ad ni cd,.slice none 0 0] 54)
       have hOl:=HO2.out.below ((Below.refl _ _).alloc (Nat.le_refl _) (.cells #[.int .i64 3,.int .i64 s.id,.int .i64 (ai:Int),.int .i64 0,.int .i64 0,.int .i64 0,.bool fin,.slice Ad ni cd,.slice none 0 0] 54))
       rw [hw3,hg3] at hAl
       rw [hw3] at hOl
       have HI3:=Lib.hid hAl.1
       have HX3:=Lib.hid hAl.2
       have HO3:=Lib.hid hOl
       have HR3:Hid (w3.ownsRow w1.heap.size 5 1 (.slice Ad ni cd) ni (bv ((s.bs.drop ai).take ni))):=by rw [← hw3];exact HR2.out.alloc _
       rw [hw3,hg3]
       clear hw3 hg3 hAl hOl
       have HD:=Lib.hid (rnext_st HI3.out.rf HOK.out room most)
       go_wp2_with fail
       refine HD.out.mono ?_
       rintro e w4 hq
       obtain ⟨Ae,ce,rfl,hs4,hrd4⟩:=next_same HNI.out hq
       have hk4:Kept [q] w3 w4:=by obtain ⟨_,_,_,_,_,hk,_⟩:=hs4;exact hk
       have HR4:Hid (w4.ownsRow w1.heap.size 5 1 (.slice Ad ni cd) ni (bv ((s.bs.drop ai).take ni))):=own_kept HR3.out hk4 (fun z hz hm=>by
        have h1:=(HR3.out.lt z (fp_own.1 hz)).1
        have h2:=HI1.out.rf.hG q HI1.out.rf.pG
        simp only [List.mem_singleton] at hm
        omega)
       have HRD4:=Lib.hid hrd4
       clear hk4 hrd4
       obtain ⟨G4,d4,e4,f4,hI4,hO4⟩:=HI3.out.goR hs4
       have HI4:=Lib.hid hI4
       have HX4':=Lib.hid (hO4 _ _ HX3.out)
       have HO4:=Lib.hid (hO4 _ _ HO3.out)
       clear hI4 hO4 hs4 HD hq
       go_upto_region 15 with (fail)
       obtain ⟨w5,hw5⟩:∃ x,w4.alloc (.cells #[.int .i64 3,.int .i64 s.id,.int .i64 (ai:Int),.int .i64 0,.int .i64 0,.int .i64 0,.bool fin,.slice Ae ni ce,.slice none 0 0] 54)=x:=⟨_,rfl⟩
       obtain ⟨gh,hg5⟩:∃ x,w4.heap.size=x:=⟨_,rfl⟩
       have hAl:=HI4.out.laid (.cells #[.int .i64 3,.int .i64 s.id,.int .i64 (ai:Int),.int .i64 0,.int .i64 0,.int .i64 0,.bool fin,.slice Ae ni ce,.slice none 0 0] 54)
       have hOl:=HO4.out.below ((Below.refl _ _).alloc (Nat.le_refl _) (.cells #[.int .i64 3,.int .i64 s.id,.int .i64 (ai:Int),.int .i64 0,.int .i64 0,.int .i64 0,.bool fin,.slice Ae ni ce,.slice none 0 0] 54))
       rw [hw5,hg5] at hAl
       rw [hw5] at hOl
       have HI5:=Lib.hid hAl.1
       have hXl:=HX4'.out.below ((Below.refl _ _).alloc (Nat.le_refl _) (.cells #[.int .i64 3,.int .i64 s.id,.int .i64 (ai:Int),.int .i64 0,.int .i64 0,.int .i64 0,.bool fin,.slice Ae ni ce,.slice none 0 0] 54))
       rw [hw5] at hXl
       have HX6:=Lib.hid hXl
       have HX5:=Lib.hid hAl.2
       have HO5:=Lib.hid hOl
       have hw5x:=hw5
       rw [hw5,hg5]
       have HR5:Hid (Rd w5 w5.heap.size Ad ni (bv ((s.bs.drop ai).take ni))∧Rd w5 w5.heap.size Ae ni (bv ((s.bs.drop ai).take ni))):=by
        rw [← hw5x]
        exact ⟨rd_own1 (HR4.out.alloc _),(HRD4.out.alloc (Nat.le_refl _) _).more (by simp)⟩
       clear hXl hw5 hg5 hw5x hAl hOl
       have y0:=cell_slot (o:=0) HX6.out.hp rfl
       have y1:=cell_slot (o:=1) HX6.out.hp rfl
       have y2:=cell_slot (o:=2) HX6.out.hp rfl
       have y3:=cell_slot (o:=3) HX6.out.hp rfl
       have y4:=cell_slot (o:=4) HX6.out.hp rfl
       have y5:=cell_slot (o:=5) HX6.out.hp rfl
       have y6:=cell_slot (o:=6) HX6.out.hp rfl
       have y7:=cell_slot (o:=7) HX6.out.hp rfl
       have y8:=cell_slot (o:=8) HX6.out.hp rfl
       have z0:=cell_slot (o:=0) HX5.out.hp rfl
       have z1:=cell_slot (o:=1) HX5.out.hp rfl
       have z2:=cell_slot (o:=2) HX5.out.hp rfl
       have z3:=cell_slot (o:=3) HX5.out.hp rfl
       have z4:=cell_slot (o:=4) HX5.out.hp rfl
       have z5:=cell_slot (o:=5) HX5.out.hp rfl
       have z6:=cell_slot (o:=6) HX5.out.hp rfl
       have z7:=cell_slot (o:=7) HX5.out.hp rfl
       have z8:=cell_slot (o:=8) HX5.out.hp rfl
       have HSM:=Lib.hid (Sq.rsame_same 3 s.id (ai:Int) 0 0 0 0 fin ((s.bs.drop ai).take ni) [] w5.heap.size w5.heap.size Ad Ae none none ni cd ce 0 0 0 w5 HR5.out.1 HR5.out.2 (Rd.nil _ _ _) (Rd.nil _ _ _) (Nat.le_refl _) (Nat.le_refl _) (by omega) (Nat.le_refl _) (Nat.le_refl _))
       go_wp2_with fail
       refine HSM.out.mono ?_
       rintro e w7 ⟨rfl,hb7⟩
       have HI7:=Lib.hid (HI5.out.below hb7)
       have HX7:=Lib.hid (HX6.out.below hb7)
       clear hb7 HSM y0 y1 y2 y3 y4 y5 y6 y7 y8 z0 z1 z2 z3 z4 z5 z6 z7 z8
       have y0:=cell_slot (o:=0) HX7.out.hp rfl
       have y1:=cell_slot (o:=1) HX7.out.hp rfl
       have y2:=cell_slot (o:=2) HX7.out.hp rfl
       have y3:=cell_slot (o:=3) HX7.out.hp rfl
       have y4:=cell_slot (o:=4) HX7.out.hp rfl
       have y5:=cell_slot (o:=5) HX7.out.hp rfl
       have y6:=cell_slot (o:=6) HX7.out.hp rfl
       have y7:=cell_slot (o:=7) HX7.out.hp rfl
       have y8:=cell_slot (o:=8) HX7.out.hp rfl
       have HOF:Hid ((0≤(ai:Int)∧(ai:Int)≤4611686018427387903)∧ni≤1099511627776):=by
        obtain ⟨e1,e2,e3,e4,_⟩:=HNF.out
        have h1:=HOK.out.u
        have h2:=HOK.out.n
        exact ⟨⟨by omega,by omega⟩,by omega⟩
       go_upto_region 18 with (fail)
       obtain ⟨i0,hi,hz0,hz1,hz2⟩:=info_parts infoF
       have HI0:=Lib.hid (And.intro hi (And.intro hz0 (And.intro hz1 hz2)))
       have hd1:Hid (Rd (w7.alloc (.cells #[.int .i64 3,.int .i64 s.id,.int .i64 (ai:Int),.int .i64 0,.int .i64 0,.int .i64 0,.bool fin,.slice Ad ni cd,.slice none 0 0] 54)) (w7.heap.size+1) (some ⟨w7.heap.size,0,none⟩) (1 * 9) (Fv.cells ⟨3,s.id,ai,0,0,0,fin,Ad,ni,cd,none,0,0⟩)):=rd_new _ _ _ _ _ _ _ rfl (by omega) rfl rfl
       have hd2:Hid (m+1≤maxLen∧(m+1) * 104≤140737488355328):=⟨by unfold maxLen;omega,by omega⟩
       have HI8:=Lib.hid (HI7.out.below ((Below.refl _ _).alloc (Nat.le_refl _) (.cells #[.int .i64 3,.int .i64 s.id,.int .i64 (ai:Int),.int .i64 0,.int .i64 0,.int .i64 0,.bool fin,.slice Ad ni cd,.slice none 0 0] 54)))
       have HQ5:Hid ((w7.alloc (.cells #[.int .i64 3,.int .i64 s.id,.int .i64 (ai:Int),.int .i64 0,.int .i64 0,.int .i64 0,.bool fin,.slice Ad ni cd,.slice none 0 0] 54)).ownsRow w.heap.size 54 9 (.slice Av m cv) m (fvs l)):=by have:=HI8.out.row.1;rw [HM.out] at this;exact this
       have hd4:Hid (w.heap.size≤(w7.alloc (.cells #[.int .i64 3,.int .i64 s.id,.int .i64 (ai:Int),.int .i64 0,.int .i64 0,.int .i64 0,.bool fin,.slice Ad ni cd,.slice none 0 0] 54)).heap.size):=HI8.out.low.size
       clear hi hz0 hz1 hz2
       apply wp_region_lit
       iterate 6 (go_step)
       refine wpList_frame rfl (.tmp 86) rfl (some 87) rfl (3) (s.id) (ai) (0) (0) (0) (fin) (Ad) (ni) (cd) (none) (0) (0) (by kernel_rfl) ?_
       go_wp2_with (at_builtin;refine wpList_app_at _ rfl (.tmp 85) (.tmp 87) 29 rfl w.heap.size 54 i0 _ 9 104 Try.underlying29 HI0.out.1 HI0.out.2.1 HI0.out.2.2.1 HI0.out.2.2.2 rfl (by decide) (.slice Av m cv) m (fvs l) (by kernel_rfl) HQ5.out (w7.heap.size+1) (some ⟨w7.heap.size,0,none⟩) 1 1 (Fv.cells ⟨3,s.id,ai,0,0,0,fin,Ad,ni,cd,none,0,0⟩) (by kernel_rfl) hd1.out (ones_fv _) hd2.out.1 hd2.out.2 hd4.out ?_)
       intro v6 w6 ho6 hg6 hn6
       have hI6:=HI8.out.push (f:=⟨3,s.id,ai,0,0,0,fin,Ad,ni,cd,none,0,0⟩) hg6 (by rw [HM.out];exact ho6) (by simpa using hn6) HOF.out
       obtain ⟨A6,c6,e6,_⟩:=own_form ho6
       subst e6
       have HI6:=Lib.hid hI6
       clear ho6 hg6 hn6 hI6
       have HJ:Hid (TellJ w _ p q id (j+1) _):=⟨_,_,_,_,_,_,_,_,_,_,HI6.out,(HOK.out.put HNI.out),HSI.out⟩
       go_wp2_with fail
       go_meet
       exact HJ
   case rest =>
    as_aux_lemma =>
     obtain ⟨F,v3,v4,v5,G,u1,u8,u9,s,l,hI,hok,hsi⟩:=hcut.out
     have HI:=Lib.hid hI
     have HOK:=Lib.hid hok
     have HSI:=Lib.hid hsi
     have HJN:Hid (j+1≤N):=hlt
     clear hI hok hsi hcut
     go_upto_region 61 with (fail)
     obtain ⟨wd,hwd⟩:∃ x,wc.drew=x:=⟨_,rfl⟩
     have HI2:Hid (SendI w wd p q (j+1) u7 F v3 v4 v5 G u1 u8 u9 s s l):=by rw [← hwd];exact HI.out.below ((Below.refl _ _).drew)
     obtain ⟨u,e1⟩:∃ z,s.u=z:=⟨_,rfl⟩
     obtain ⟨dn,e2⟩:∃ z,doneS s=z:=⟨_,rfl⟩
     obtain ⟨lf,e3⟩:∃ z,Cr.leftF s.l s.u=z:=⟨_,rfl⟩
     obtain ⟨nb,e4⟩:∃ z,s.bs.length=z:=⟨_,rfl⟩
     have hlu:(0≤s.l∧s.l≤9223372036854775807)∧0≤s.u∧s.u≤9223372036854775807:=by have h1:=HOK.out.u;have h2:=HOK.out.l;omega
     have HLU:=Lib.hid hlu
     have HEL:Hid (s.came.length≤1000000):=(by have:=(edges_len HOK.out).2;show s.came.length≤_;omega)
     obtain ⟨Ad,cdd,hdv,_⟩:=HI2.out.rf.data
     rw [e4] at hdv
     have HDV:=Lib.hid hdv
     have HS:Hid (∀ W,Below wd.heap.size wd W→(fun W:World=>W.cell? ⟨q,1,none⟩=some (.slice Ad nb cdd)∧W.cell? ⟨p,1,none⟩=some (.int .i64 u)∧W.cell? ⟨q,3,none⟩=some (.int .i64 u)) W):=fun W hW=>by
      have k1:=(HI2.out.below hW).rf.cells
      have k2:=(HI2.out.below hW).st.cells
      refine ⟨?_,?_,?_⟩
      ·rw [← HDV.out];exact k1.2.1
      ·rw [← e1];exact k2.2.1
      ·rw [← e1];exact k1.2.2.2.1
     clear hlu hdv
     have HC1:Hid (∀ W,Below wd.heap.size wd W→Calls Try.prog 27 #[.pointer (some ⟨p,0,none⟩)] W fun e w'=>e=.returned (.bool dn)∧Below W.heap.size W w'):=fun W hW=>by
      have:=done_st (HI2.out.below hW).st HEL.out
      rw [e2] at this
      exact this.mono fun _ _ h=>⟨h.1,by obtain ⟨z,hz⟩:=h.2;rw [hz];exact ⟨rfl,rfl,rfl,Nat.le_refl _,fun _ _=>rfl⟩⟩
     have HC2:Hid (∀ W,Below wd.heap.size wd W→Calls Try.prog 28 #[.pointer (some ⟨q,0,none⟩)] W fun e w'=>e=.returned (.bool dn)∧Below W.heap.size W w'):=fun W hW=>by
      have:=rdone_st (HI2.out.below hW).rf HEL.out
      rw [e2] at this
      exact this
     have HC3:Hid (∀ W,Below wd.heap.size wd W→Calls Try.prog 29 #[.pointer (some ⟨p,0,none⟩)] W fun e w'=>e=.returned (.int .i64 (nb:Int))∧Below W.heap.size W w'):=fun W hW=>by
      have:=size_st (HI2.out.below hW).st
      rw [e4] at this
      exact this.mono fun _ _ h=>⟨h.1,by rw [h.2];exact Below.refl _ _⟩
     have HC4:Hid (∀ W,Below wd.heap.size wd W→Calls Try.prog 30 #[.pointer (some ⟨p,0,none⟩)] W fun e w'=>e=.returned (.int .i64 lf)∧Below W.heap.size W w'):=fun W hW=>by
      have:=Cr.left_any (HI2.out.below hW).st.cred HLU.out.1 HLU.out.2
      rw [e3] at this
      exact this.mono fun _ _ h=>⟨h.1,by obtain ⟨z,hz⟩:=h.2;rw [hz];exact ⟨rfl,rfl,rfl,Nat.le_refl _,fun _ _=>rfl⟩⟩
     have HC5:Hid (∀ W,Below wd.heap.size wd W→Calls Try.prog 31 #[.pointer (some ⟨q,2,none⟩)] W fun e w'=>e=.returned (.int .i64 lf)∧Below W.heap.size W w'):=fun W hW=>by
      have:=Cr.rleft_any (HI2.out.below hW).rf.cred HLU.out.1 HLU.out.2
      rw [e3] at this
      exact this.mono fun _ _ h=>⟨h.1,by obtain ⟨z,hz⟩:=h.2;rw [hz];exact ⟨rfl,rfl,rfl,Nat.le_refl _,fun _ _=>rfl⟩⟩
     have HB1:Hid (Below wd.heap.size wd wd):=Below.refl _ _
     clear e1 e2 e3 e4
     refine wp_region_held_drew (S:=(fun W:World=>W.cell? ⟨q,1,none⟩=some (.slice Ad nb cdd)∧W.cell? ⟨p,1,none⟩=some (.int .i64 u)∧W.cell? ⟨q,3,none⟩=some (.int .i64 u))) (by kernel_rfl) ?_ (fun hHeld=>?_)
     ·exact (hwd ▸ HS.out _ HB1.out)
     rw [hwd] at hHeld ⊢
     clear hwd
     refine wpAnyH_take (i:=0) (v:=?_) rfl (by kernel_rfl) (by kernel_rfl) (by kernel_rfl) (fun _ _ _ h=>h) (Or.inl ⟨by rfl,?_⟩) (by assumption) ?_
     rotate_left
     ·intro w hSw;(try dsimp only at hSw);go_simp;try with_reducible rfl
     go_simp
     refine wpAnyH_take (i:=2) (v:=?_) rfl (by kernel_rfl) (by kernel_rfl) (by kernel_rfl) (fun _ _ _ h=>h) (Or.inl ⟨by rfl,?_⟩) (by assumption) ?_
     rotate_left
     ·intro w hSw;(try dsimp only at hSw);go_simp;try with_reducible rfl
     go_simp
     refine wpAnyH_ready (rs:=[1]) (by kernel_rfl) (by simp) ?_
     refine AllReadyH.cons rfl (fun K hK=>?_) AllReadyH.nil
     go_simp
     refine (HC1.out _ HB1.out).mono ?_
     rintro e w2 ⟨rfl,hb2⟩
     have HB2:Hid (Below wd.heap.size wd w2):=HB1.out.trans (hb2.mono HB1.out.size)
     clear hb2
     refine hK.out _ _ ?_ (fun hHeld=>?_)
     ·exact HS.out _ HB2.out
     clear hK K
     go_simp
     as_aux_lemma =>
      refine wpAnyH_ready (rs:=[3]) (by kernel_rfl) (by simp) ?_
      refine AllReadyH.cons rfl (fun K hK=>?_) AllReadyH.nil
      go_simp
      refine (HC2.out _ HB2.out).mono ?_
      rintro e w3 ⟨rfl,hb3⟩
      have HB3:Hid (Below wd.heap.size wd w3):=HB2.out.trans (hb3.mono HB2.out.size)
      clear hb3
      refine hK.out _ _ ?_ (fun hHeld=>?_)
      ·exact HS.out _ HB3.out
      clear hK K
      go_simp
      refine wpAnyH_take (i:=4) (v:=?_) rfl (by kernel_rfl) (by kernel_rfl) (by kernel_rfl) (fun _ _ _ h=>h) (Or.inl ⟨by rfl,?_⟩) (by assumption) ?_
      rotate_left
      ·intro w hSw;(try dsimp only at hSw);go_simp;try with_reducible rfl
      go_simp
      refine wpAnyH_take (i:=5) (v:=?_) rfl (by kernel_rfl) (by kernel_rfl) (by kernel_rfl) (fun _ _ _ h=>h) (Or.inl ⟨by rfl,?_⟩) (by assumption) ?_
      rotate_left
      ·intro w hSw;(try dsimp only at hSw);go_simp;try with_reducible rfl
      go_simp
      refine wpAnyH_take (i:=6) (v:=?_) rfl (by kernel_rfl) (by kernel_rfl) (by kernel_rfl) (fun _ _ _ h=>h) (Or.inl ⟨by rfl,?_⟩) (by assumption) ?_
      rotate_left
      ·intro w hSw;(try dsimp only at hSw);go_simp;try with_reducible rfl
      go_simp
      refine wpAnyH_take (i:=8) (v:=?_) rfl (by kernel_rfl) (by kernel_rfl) (by kernel_rfl) (fun _ _ _ h=>h) (Or.inl ⟨by rfl,?_⟩) (by assumption) ?_
      rotate_left
      ·intro w hSw;(try dsimp only at hSw);go_simp;try with_reducible rfl
      go_simp
      refine wpAnyH_take (i:=9) (v:=?_) rfl (by kernel_rfl) (by kernel_rfl) (by kernel_rfl) (fun _ _ _ h=>h) (Or.inl ⟨by rfl,?_⟩) (by assumption) ?_
      rotate_left
      ·intro w hSw;(try dsimp only at hSw);go_simp;try with_reducible rfl
      go_simp
      refine wpAnyH_take (i:=10) (v:=?_) rfl (by kernel_rfl) (by kernel_rfl) (by kernel_rfl) (fun _ _ _ h=>h) (Or.inl ⟨by rfl,?_⟩) (by assumption) ?_
      rotate_left
      ·intro w hSw;(try dsimp only at hSw);go_simp;try with_reducible rfl
      go_simp
      refine wpAnyH_take (i:=11) (v:=?_) rfl (by kernel_rfl) (by kernel_rfl) (by kernel_rfl) (fun _ _ _ h=>h) (Or.inl ⟨by rfl,?_⟩) (by assumption) ?_
      rotate_left
      ·intro w hSw;(try dsimp only at hSw);go_simp;try with_reducible rfl
      go_simp
      refine wpAnyH_take (i:=12) (v:=?_) rfl (by kernel_rfl) (by kernel_rfl) (by kernel_rfl) (fun _ _ _ h=>h) (Or.inl ⟨by rfl,?_⟩) (by assumption) ?_
      rotate_left
      ·intro w hSw;(try dsimp only at hSw);go_simp;try with_reducible rfl
      go_simp
      as_aux_lemma =>
       refine wpAnyH_ready (rs:=[7]) (by kernel_rfl) (by simp) ?_
       refine AllReadyH.cons rfl (fun K hK=>?_) AllReadyH.nil
       go_simp
       refine (HC3.out _ HB3.out).mono ?_
       rintro e w4 ⟨rfl,hb4⟩
       have HB4:Hid (Below wd.heap.size wd w4):=HB3.out.trans (hb4.mono HB3.out.size)
       clear hb4
       refine hK.out _ _ ?_ (fun hHeld=>?_)
       ·exact HS.out _ HB4.out
       clear hK K
       go_simp
       refine wpAnyH_take (i:=13) (v:=?_) rfl (by kernel_rfl) (by kernel_rfl) (by kernel_rfl) (fun _ _ _ h=>h) (Or.inl ⟨by rfl,?_⟩) (by assumption) ?_
       rotate_left
       ·intro w hSw;(try dsimp only at hSw);go_simp;try with_reducible rfl
       go_simp
       refine wpAnyH_take (i:=14) (v:=?_) rfl (by kernel_rfl) (by kernel_rfl) (by kernel_rfl) (fun _ _ _ h=>h) (Or.inl ⟨by rfl,?_⟩) (by assumption) ?_
       rotate_left
       ·intro w hSw;(try dsimp only at hSw);go_simp;try with_reducible rfl
       go_simp
       refine wpAnyH_take (i:=15) (v:=?_) rfl (by kernel_rfl) (by kernel_rfl) (by kernel_rfl) (fun _ _ _ h=>h) (Or.inl ⟨by rfl,?_⟩) (by assumption) ?_
       rotate_left
       ·intro w hSw;(try dsimp only at hSw);go_simp;try with_reducible rfl
       go_simp
       refine wpAnyH_take (i:=16) (v:=?_) rfl (by kernel_rfl) (by kernel_rfl) (by kernel_rfl) (fun _ _ _ h=>h) (Or.inl ⟨by rfl,?_⟩) (by assumption) ?_
       rotate_left
       ·intro w hSw;(try dsimp only at hSw);go_simp;try with_reducible rfl
       go_simp
       refine wpAnyH_take (i:=17) (v:=?_) rfl (by kernel_rfl) (by kernel_rfl) (by kernel_rfl) (fun _ _ _ h=>h) (Or.inl ⟨by rfl,?_⟩) (by assumption) ?_
       rotate_left
       ·intro w hSw;(try dsimp only at hSw);go_simp;try with_reducible rfl
       go_simp
       refine wpAnyH_take (i:=18) (v:=?_) rfl (by kernel_rfl) (by kernel_rfl) (by kernel_rfl) (fun _ _ _ h=>h) (Or.inl ⟨by rfl,?_⟩) (by assumption) ?_
       rotate_left
       ·intro w hSw;(try dsimp only at hSw);go_simp;try with_reducible rfl
       go_simp
       refine wpAnyH_take (i:=19) (v:=?_) rfl (by kernel_rfl) (by kernel_rfl) (by kernel_rfl) (fun _ _ _ h=>h) (Or.inl ⟨by rfl,?_⟩) (by assumption) ?_
       rotate_left
       ·intro w hSw;(try dsimp only at hSw);go_simp;try with_reducible rfl
       go_simp
       refine wpAnyH_take (i:=20) (v:=?_) rfl (by kernel_rfl) (by kernel_rfl) (by kernel_rfl) (fun _ _ _ h=>h) (Or.inl ⟨by rfl,?_⟩) (by assumption) ?_
       rotate_left
       ·intro w hSw;(try dsimp only at hSw);go_simp;try with_reducible rfl
       go_simp
       refine wpAnyH_take (i:=21) (v:=?_) rfl (by kernel_rfl) (by kernel_rfl) (by kernel_rfl) (fun _ _ _ h=>h) (Or.inl ⟨by rfl,?_⟩) (by assumption) ?_
       rotate_left
       ·intro w hSw;(try dsimp only at hSw);go_simp;try with_reducible rfl
       go_simp
       refine wpAnyH_take (i:=22) (v:=?_) rfl (by kernel_rfl) (by kernel_rfl) (by kernel_rfl) (fun _ _ _ h=>h) (Or.inl ⟨by rfl,?_⟩) (by assumption) ?_
       rotate_left
       ·intro w hSw;(try dsimp only at hSw);go_simp;try with_reducible rfl
       go_simp
       as_aux_lemma =>
        refine wpAnyH_take (i:=23) (v:=?_) rfl (by kernel_rfl) (by kernel_rfl) (by kernel_rfl) (fun _ _ _ h=>h) (Or.inl ⟨by rfl,?_⟩) (by assumption) ?_
        rotate_left
        ·intro w hSw;(try dsimp only at hSw);go_simp;try with_reducible rfl
        go_simp
        refine wpAnyH_take (i:=24) (v:=?_) rfl (by kernel_rfl) (by kernel_rfl) (by kernel_rfl) (fun _ _ _ h=>h) (Or.inl ⟨by rfl,?_⟩) (by assumption) ?_
        rotate_left
        ·intro w hSw;(try dsimp only at hSw);go_simp;try with_reducible rfl
        go_simp
        refine wpAnyH_take (i:=25) (v:=?_) rfl (by kernel_rfl) (by kernel_rfl) (by kernel_rfl) (fun _ _ _ h=>h) (Or.inl ⟨by rfl,?_⟩) (by assumption) ?_
        rotate_left
        ·intro w hSw;(try dsimp only at hSw);go_simp;try with_reducible rfl
        go_simp
        refine wpAnyH_take (i:=26) (v:=?_) rfl (by kernel_rfl) (by kernel_rfl) (by kernel_rfl) (fun _ _ _ h=>h) (Or.inl ⟨by rfl,?_⟩) (by assumption) ?_
        rotate_left
        ·intro w hSw;(try dsimp only at hSw);go_simp;try with_reducible rfl
        go_simp
        refine wpAnyH_take (i:=27) (v:=?_) rfl (by kernel_rfl) (by kernel_rfl) (by kernel_rfl) (fun _ _ _ h=>h) (Or.inl ⟨by rfl,?_⟩) (by assumption) ?_
        rotate_left
        ·intro w hSw;(try dsimp only at hSw);go_simp;try with_reducible rfl
        go_simp
        refine wpAnyH_take (i:=28) (v:=?_) rfl (by kernel_rfl) (by kernel_rfl) (by kernel_rfl) (fun _ _ _ h=>h) (Or.inl ⟨by rfl,?_⟩) (by assumption) ?_
        rotate_left
        ·intro w hSw;(try dsimp only at hSw);go_simp;try with_reducible rfl
        go_simp
        refine wpAnyH_take (i:=29) (v:=?_) rfl (by kernel_rfl) (by kernel_rfl) (by kernel_rfl) (fun _ _ _ h=>h) (Or.inl ⟨by rfl,?_⟩) (by assumption) ?_
        rotate_left
        ·intro w hSw;(try dsimp only at hSw);go_simp;try with_reducible rfl
        go_simp
        refine wpAnyH_take (i:=30) (v:=?_) rfl (by kernel_rfl) (by kernel_rfl) (by kernel_rfl) (fun _ _ _ h=>h) (Or.inl ⟨by rfl,?_⟩) (by assumption) ?_
        rotate_left
        ·intro w hSw;(try dsimp only at hSw);go_simp;try with_reducible rfl
        go_simp
        refine wpAnyH_take (i:=31) (v:=?_) rfl (by kernel_rfl) (by kernel_rfl) (by kernel_rfl) (fun _ _ _ h=>h) (Or.inl ⟨by rfl,?_⟩) (by assumption) ?_
        rotate_left
        ·intro w hSw;(try dsimp only at hSw);go_simp;try with_reducible rfl
        go_simp
        refine wpAnyH_take (i:=33) (v:=?_) rfl (by kernel_rfl) (by kernel_rfl) (by kernel_rfl) (fun _ _ _ h=>h) (Or.inl ⟨by rfl,?_⟩) (by assumption) ?_
        rotate_left
        ·intro w hSw;(try dsimp only at hSw);go_simp;try with_reducible rfl
        go_simp
        refine wpAnyH_take (i:=34) (v:=?_) rfl (by kernel_rfl) (by kernel_rfl) (by kernel_rfl) (fun _ _ _ h=>h) (Or.inl ⟨by rfl,?_⟩) (by assumption) ?_
        rotate_left
        ·intro w hSw;(try dsimp only at hSw);go_simp;try with_reducible rfl
        go_simp
        refine wpAnyH_take (i:=35) (v:=?_) rfl (by kernel_rfl) (by kernel_rfl) (by kernel_rfl) (fun _ _ _ h=>h) (Or.inl ⟨by rfl,?_⟩) (by assumption) ?_
        rotate_left
        ·intro w hSw;(try dsimp only at hSw);go_simp;try with_reducible rfl
        go_simp
        as_aux_lemma =>
         refine wpAnyH_ready (rs:=[32]) (by kernel_rfl) (by simp) ?_
         refine AllReadyH.cons rfl (fun K hK=>?_) AllReadyH.nil
         go_simp
         refine (HC4.out _ HB4.out).mono ?_
         rintro e w5 ⟨rfl,hb5⟩
         have HB5:Hid (Below wd.heap.size wd w5):=HB4.out.trans (hb5.mono HB4.out.size)
         clear hb5
         refine hK.out _ _ ?_ (fun hHeld=>?_)
         ·exact HS.out _ HB5.out
         clear hK K
         go_simp
         refine wpAnyH_ready (rs:=[36]) (by kernel_rfl) (by simp) ?_
         refine AllReadyH.cons rfl (fun K hK=>?_) AllReadyH.nil
         go_simp
         refine (HC5.out _ HB5.out).mono ?_
         rintro e w6 ⟨rfl,hb6⟩
         have HB6:Hid (Below wd.heap.size wd w6):=HB5.out.trans (hb6.mono HB5.out.size)
         clear hb6
         refine hK.out _ _ ?_ (fun hHeld=>?_)
         ·exact HS.out _ HB6.out
         clear hK K
         go_simp
         refine wpAnyH_take (i:=37) (v:=?_) rfl (by kernel_rfl) (by kernel_rfl) (by kernel_rfl) (fun _ _ _ h=>h) (Or.inl ⟨by rfl,?_⟩) (by assumption) ?_
         rotate_left
         ·intro w hSw;(try dsimp only at hSw);go_simp;try with_reducible rfl
         go_simp
         refine wpAnyH_take (i:=38) (v:=?_) rfl (by kernel_rfl) (by kernel_rfl) (by kernel_rfl) (fun _ _ _ h=>h) (Or.inl ⟨by rfl,?_⟩) (by assumption) ?_
         rotate_left
         ·intro w hSw;(try dsimp only at hSw);go_simp;try with_reducible rfl
         go_simp
         refine wpAnyH_done (by kernel_rfl) ?_ _
         have HJ:Hid (TellJ w w6 p q id (j+1) u7):=⟨F,v3,v4,v5,G,u1,u8,u9,s,l,HI2.out.below HB6.out,HOK.out,HSI.out⟩
         go_wp2_with fail
         go_roundw
         case rel=>exact ⟨j+1,HJN.out,by go_num,HJ⟩
         case measure=>have:=HJN.out;simp [intOf];omega
end Go.Proofs.Ytoahkffdoaphlaa.Se
