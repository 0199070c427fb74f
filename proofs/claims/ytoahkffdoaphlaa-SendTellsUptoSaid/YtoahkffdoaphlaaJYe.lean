/- Joined texts. Conditions: as each theorem lists them. -/
import Derived.Test.YtoahkffdoaphlaaJYb
import Derived.Test.YtoahkffdoaphlaaJRq
import Derived.Test.YtoahkffdoaphlaaJWg
import Derived.Test.YtoahkffdoaphlaaJWh
set_option linter.unusedSimpArgs false
set_option linter.unusedVariables false
set_option maxRecDepth 100000
set_option maxHeartbeats 80000000
namespace Go.Proofs.Ytoahkffdoaphlaa.Se
open Go Go.RowKit Go.Proofs.Ytoahkffdoaphlaa Go.Proofs.Ytoahkffdoaphlaa.Sp Go.Proofs.Ytoahkffdoaphlaa.Sp.Ref
theorem wid_a {x:Int} (h0:0≤x) (h1:x<64):(wid x:Int)=1:=by unfold wid;rw [if_neg (by omega),if_pos (by omega)];rfl
theorem wid_b {x:Int} (h0:64≤x) (h1:x≤120):(wid x:Int)=2:=by unfold wid;rw [if_neg (by omega),if_neg (by omega),if_pos (by omega)];rfl
def fitK (s:St) (off n room:Int):Int:=if bareS s off≤room∧0<fitS n room (bareS s off) then fitS n room (bareS s off) else 0
theorem fitK_in (s:St) (off n room:Int) (hn:0≤n):0≤fitK s off n room∧fitK s off n room≤n∧fitK s off n room≤120:=by
 unfold fitK
 split
 ·rename_i hc
  have:=fitS_in n room (bareS s off) hn hc.1
  omega
 ·omega
theorem fits_iff (s:St) (off n room:Int) (hn:0≤n) (z:Int) (h1:1≤z) (h2:z≤n) (h3:z≤120):(2+(wid s.id:Int)+(wid off:Int)+(wid z:Int)+z≤room)↔z≤fitK s off n room:=by
 have hb:bareS s off=3+(wid s.id:Int)+(wid off:Int):=rfl
 have hz:(z<64∧(wid z:Int)=1)∨(64≤z∧(wid z:Int)=2):=by
  by_cases h:z<64
  ·exact .inl ⟨h,wid_a (by omega) h⟩
  ·exact .inr ⟨by omega,wid_b (by omega) h3⟩
 obtain ⟨b,hbb⟩:∃ b,bareS s off=b:=⟨_,rfl⟩
 rw [hbb] at hb
 have hsz:2+(wid s.id:Int)+(wid off:Int)=b - 1:=by omega
 rw [hsz]
 unfold fitK
 rw [hbb]
 by_cases hr:b≤room
 ·have hm:(min (min n 120) (room - b)<64∧(wid (min (min n 120) (room - b)):Int)=1)∨(64≤min (min n 120) (room - b)∧(wid (min (min n 120) (room - b)):Int)=2):=by
   by_cases h:min (min n 120) (room - b)<64
   ·exact .inl ⟨h,wid_a (by omega) h⟩
   ·exact .inr ⟨by omega,wid_b (by omega) (by omega)⟩
  have hf:fitS n room b=min (min (min n 120) (room - b)) (room - b - (wid (min (min n 120) (room - b)):Int)+1):=rfl
  obtain ⟨wz,hwz⟩:∃ x,(wid z:Int)=x:=⟨_,rfl⟩
  obtain ⟨wm,hwm⟩:∃ x,(wid (min (min n 120) (room - b)):Int)=x:=⟨_,rfl⟩
  rw [hwz] at hz ⊢
  rw [hwm] at hm hf
  rw [hf]
  clear hf hwz hwm hsz hb hbb
  split <;> omega
 ·rw [if_neg (fun h=>hr h.1)]
  omega
theorem below_set {B g:Nat} {w w1:World} (hg:B≤g) (h:Below B w w1) (j:Nat) (u:Value):Below B w (w1.setCell ⟨g,j,none⟩ u) :=
 h.trans ⟨rfl,rfl,rfl,by simp [World.setCell],fun k hk=>Below.heap_setCell _ _ _ _ (by show k≠g;omega)⟩
theorem bv_take' (l:List Nat) (k:Nat):bv (l.take k)=(bv l).take k:=by simp [bv]
theorem bv_drop' (l:List Nat) (k:Nat):bv (l.drop k)=(bv l).drop k:=by simp [bv]
section
variable {w w':World} {p:Nat} {G:List Nat} {v1 v8 v9:Value} {s:St}
theorem rfsz_st (id off:Int) (fin:Bool) (data:List Nat) (A:Option Addr) (n c:Nat) (w:World) (hid:0≤id∧id≤4611686018427387903) (ho:0≤off∧off≤1000000) (hx:Rd w w.heap.size A n (bv data)) (hn:n≤120) :
  Calls Try.prog 74 #[.agg #[.int .i64 3,.int .i64 id,.int .i64 off,.int .i64 0,.int .i64 0,.int .i64 0,.bool fin,.slice A n c,.slice none 0 0]] w fun e w'=>e=.returned (.int .i64 (2+(wid id:Int)+(wid off:Int)+(wid (n:Int):Int)+(n:Int)))∧Below w.heap.size w w':=by
 have hi:wid id≠0:=by have:=wid_in hid.1 hid.2;omega
 have hof:wid off≠0:=by have:=wid_in ho.1 (show off≤4611686018427387903 by omega);omega
 have hnw:wid (n:Int)≠0:=by have:=wid_in (show 0≤(n:Int) by omega) (show (n:Int)≤4611686018427387903 by omega);omega
 have hbw:wid (bitI fin)=1:=wid_bit fin
 have H1:Hid (∀ W,Calls Try.prog 103 #[.agg #[.int .i64 3,.int .i64 id,.int .i64 off,.int .i64 0,.int .i64 0,.int .i64 0,.bool fin,.slice A n c,.slice none 0 0]] W fun e w'=>e=.returned (.bool true)∧Below W.heap.size W w'):=fun W=>rright_3 id off 0 0 0 fin A n c none 0 0 W hi hof (by decide) (by decide) hn (by omega)
 have H2:Hid (∀ W,Below w.heap.size w W→Calls Try.prog 104 #[.agg #[.int .i64 3,.int .i64 id,.int .i64 off,.int .i64 0,.int .i64 0,.int .i64 0,.bool fin,.slice A n c,.slice none 0 0]] W fun e w'=>∃ v',e=.returned v'∧w'.ownsRow W.heap.size 5 1 v' (1+sumW [id,off,(bitI fin),(n:Int)]+n) (encs [3] ++ encs [id,off,(bitI fin),(n:Int)] ++ bv data)∧Below W.heap.size W w'):=fun W hW =>
  rlay_3 id off 0 0 0 fin data A n c none 0 0 W (by
   intro m hm
   simp only [List.mem_cons,List.mem_nil_iff,or_false] at hm
   rcases hm with rfl | rfl | rfl | rfl
   ·exact hi
   ·exact hof
   ·rw [hbw];decide
   ·exact hnw) ((hx.below hW (Nat.le_refl _)).more hW.size) hn
 have hsum:1+sumW [id,off,(bitI fin),(n:Int)]+n=2+wid id+wid off+wid (n:Int)+n:=by
  show 1+(wid id+(wid off+(wid (bitI fin)+(wid (n:Int)+0))))+n=_
  rw [hbw];omega
 obtain ⟨L,hL⟩:∃ L,1+sumW [id,off,(bitI fin),(n:Int)]+n=L:=⟨_,rfl⟩
 have HLL:Hid ((2+(wid id:Int)+(wid off:Int)+(wid (n:Int):Int)+(n:Int))=(L:Int)):=by show _=_;rw [← hL,hsum];simp
 rw [hL] at H2
 rw [HLL.out]
 clear hi hof hnw hbw hsum hL hx hid ho HLL
 go_enter Try.func74,Try.ntmps74
 go_wp2_with fail
 obtain ⟨w0,hw0⟩:∃ w0,Hid (w.alloc (.cells #[.int .i64 3,.int .i64 id,.int .i64 off,.int .i64 0,.int .i64 0,.int .i64 0,.bool fin,.slice A n c,.slice none 0 0] 54)=w0):=⟨_,rfl⟩
 have H0:Hid (w.heap.size<w0.heap.size∧Below w.heap.size w w0):=by rw [← hw0.out];exact ⟨by simp,(Below.refl _ _).alloc (Nat.le_refl _) _⟩
 have HF0:Hid (FrB w0 w.heap.size 3 id off 0 0 0 fin A n c none 0 0):=by rw [← hw0.out];exact heap_alloc_new w _
 rw [hw0.out]
 clear hw0
 refine (H1.out _).mono ?_
 rintro e w1 ⟨rfl,hb1⟩
 have HF1:Hid (FrB w1 w.heap.size 3 id off 0 0 0 fin A n c none 0 0):=(hb1.block _ H0.out.1).trans HF0.out
 have HB1:Hid (Below w.heap.size w w1):=H0.out.2.trans (hb1.mono H0.out.2.size)
 obtain ⟨y0,y1,y2,y3,y4,y5,y6,y7,y8⟩:=HF1.out.cells
 clear hb1
 go_wp2_with fail
 refine (H2.out _ HB1.out).mono ?_
 rintro e w2 ⟨v2,rfl,ho,hb2⟩
 have HB2:Hid (Below w.heap.size w w2):=HB1.out.trans (hb2.mono HB1.out.size)
 obtain ⟨A5,c5,rfl,_⟩:=own_form ho
 clear ho hb2
 go_wp2_with fail
 go_ret
 exact ⟨rfl,HB2.out⟩
def FrameP (w:World) (s:St) (off n room:Int) (e:Ending) (w':World):Prop :=
 Below w.heap.size w w'∧((fitK s off n room=0∧e=.returned (.tuple #[.agg #[.int .i64 0,.int .i64 0,.int .i64 0,.int .i64 0,.int .i64 0,.int .i64 0,.bool false,.slice none 0 0,.slice none 0 0],.bool false])) ∨
  ∃ (a k:Nat) (A:Option Addr) (c:Nat),off=(a:Int)∧0<k∧(k:Int)=fitK s off n room∧e=.returned (.tuple #[.agg #[.int .i64 3,.int .i64 s.id,.int .i64 off,.int .i64 0,.int .i64 0,.int .i64 0,.bool (finS s off k),.slice A k c,.slice none 0 0],.bool true])∧w'.ownsRow w.heap.size 5 1 (.slice A k c) k (bv ((s.bs.drop a).take k)))
theorem rframe_st (h:RIn w p G v1 v8 v9 s) (hok:StOk s) (a:Nat) (n room:Int) (hn:0≤n) (hon:(a:Int)+n≤(s.bs.length:Int)) :
  Calls Try.prog 71 #[.pointer (some ⟨p,0,none⟩),.int .i64 (a:Int),.int .i64 n,.int .i64 room] w (FrameP w s (a:Int) n room):=by
 obtain ⟨g,hg⟩:∃ g,w.heap.size=g:=⟨_,rfl⟩
 obtain ⟨w1,hw1⟩:∃ x,w.alloc (.cells #[.int .i64 0,.int .i64 0,.int .i64 0,.int .i64 0,.int .i64 0,.int .i64 0,.bool false,.slice none 0 0,.slice none 0 0] 54)=x:=⟨_,rfl⟩
 have hM:RMid w w1 p g G G v1 v8 v9 s:=by rw [← hg,← hw1];exact rmid_new h _
 have hg1:w1.heap[g]?=some (.cells #[.int .i64 0,.int .i64 0,.int .i64 0,.int .i64 0,.int .i64 0,.int .i64 0,.bool false,.slice none 0 0,.slice none 0 0] 54 (0,0)):=by rw [← hg,← hw1];exact heap_alloc_new w _
 have hb1:Below w.heap.size w w1:=by rw [← hw1];exact (Below.refl _ _).alloc (Nat.le_refl _) _
 have hbsn:=hok.n
 have HK:=Lib.hid (fitK_in s (a:Int) n room hn)
 have HFI:=Lib.hid (fits_iff s (a:Int) n room hn)
 have HSZ:=Lib.hid (fun (fin:Bool) (data:List Nat) (A:Option Addr) (m c:Nat) (W:World)=>rfsz_st s.id (a:Int) fin data A m c W hok.id (by omega))
 have HP:Hid (∀ e w',FrameP w s (a:Int) n room e w'=(Below w.heap.size w w'∧((fitK s (a:Int) n room=0∧e=.returned (.tuple #[.agg #[.int .i64 0,.int .i64 0,.int .i64 0,.int .i64 0,.int .i64 0,.int .i64 0,.bool false,.slice none 0 0,.slice none 0 0],.bool false]))∨∃ (a2 k:Nat) (A:Option Addr) (c:Nat),(a:Int)=(a2:Int)∧0<k∧(k:Int)=fitK s (a:Int) n room∧e=.returned (.tuple #[.agg #[.int .i64 3,.int .i64 s.id,.int .i64 (a:Int),.int .i64 0,.int .i64 0,.int .i64 0,.bool (finS s (a:Int) k),.slice A k c,.slice none 0 0],.bool true])∧w'.ownsRow w.heap.size 5 1 (.slice A k c) k (bv ((s.bs.drop a2).take k))))):=fun _ _=>rfl
 obtain ⟨Q,hQ⟩:∃ Q,FrameP w s (a:Int) n room=Q:=⟨_,rfl⟩
 have HQ:Hid (∀ e w',FrameP w s (a:Int) n room e w'→Q e w'):=fun e w' hq=>by rw [← hQ];exact hq
 rw [hQ]
 obtain ⟨K,hK⟩:∃ K,fitK s (a:Int) n room=K:=⟨_,rfl⟩
 rw [hK] at HK HFI
 have HKK:=Lib.hid hK
 obtain ⟨nb,hnb⟩:∃ x,s.bs.length=x:=⟨_,rfl⟩
 obtain ⟨Av,cv,rfl,hcv,hrd,_⟩:=h.data
 have HCV:Hid (s.bs.length≤cv):=hcv
 rw [hnb] at hon hbsn
 have hcI:(nb:Int)≤(cv:Int):=by omega
 have haI:(a:Int)≤4000:=by omega
 have hnI:n≤4000:=by omega
 have hnbI:(nb:Int)≤4000:=by omega
 have HNB:=Lib.hid hnb
 obtain ⟨i0,hi,hz0,hz1,hz2⟩:=info_parts infoB
 have HI:=Lib.hid (And.intro hi (And.intro hz0 (And.intro hz1 hz2)))
 have HM:=Lib.hid hM
 have HG:=Lib.hid hg1
 have HW:=Lib.hid hw1
 have HGG:=Lib.hid hg
 have HB1:=Lib.hid hb1
 have HRD:Hid (∀ W,Below w1.heap.size w1 W→Rd W w1.heap.size Av nb (bv s.bs)):=fun W hW=>by
  obtain ⟨A',c',e',_,h4,_⟩:=hM.st.data
  simp only [Value.slice.injEq] at e'
  obtain ⟨rfl,_,rfl⟩:=e'
  rw [← hnb]
  exact h4.below hW (Nat.le_refl _)
 obtain ⟨m0,hm0⟩:∃ m,min n 120=m:=⟨_,rfl⟩
 have HMI:=Lib.hid hm0
 have HM0:Hid (m0≤n∧m0≤120∧K≤m0):=by have:=HK.out;show _∧_;omega
 clear h hok hM hg1 hw1 hg hb1 hK hnb hrd hcv hi hz0 hz1 hz2 hbsn hQ hm0
 go_enter Try.func71,Try.ntmps71
 go_upto_region 1 with (fail)
 rw [HW.out,HGG.out]
 go_cut [2] (fun v wx=>v=.int .i64 m0∧wx=w1)
 case first =>
  go_wp2_with fail
  go_meet
  case rel=>exact ⟨by rw [HMI.out],rfl⟩
 case rest =>
  obtain ⟨hcv,hcw⟩:=hcut
  subst hcv
  rw [hcw]
  clear hcw
  go_wp2_with fail
  go_loopw [2] (fun i wr=>∃ z:Int,K≤z∧z≤m0∧i=.int .i64 z∧Hid (Below w1.heap.size w1 wr)) (fun i _=>(intOf i).toNat)
  case atStart=>exact ⟨m0,HM0.out.2.2,by omega,rfl,Below.refl _ _⟩
  case round =>
   obtain ⟨z,hz1,hz2,rfl,HBR⟩:=hrel
   by_cases hz:0<z
   ·obtain ⟨k,rfl⟩:∃ k:Nat,z=(k:Int):=⟨z.toNat,by omega⟩
    have hk120:k≤120:=by have:=HM0.out;omega
    have hkn:(a:Int)+(k:Int)≤(nb:Int):=by have:=HM0.out;omega
    have hak:a+k≤nb:=by omega
    have hkI:(k:Int)≤120:=by omega
    obtain ⟨en,hen⟩:∃ en:Nat,a+k=en:=⟨_,rfl⟩
    have henI:(a:Int)+(k:Int)=(en:Int):=by omega
    have HEN:=Lib.hid hen
    have hic:(a:Int)≤(en:Int):=by omega
    have hwe:IntKind.i64.wrap (en:Int)=(en:Int):=IntWalk.i64_in _ (by omega)
    have haen:a≤en:=by omega
    have hjc:(en:Int)≤(cv:Int):=by omega
    have hac:a≤cv:=by have:=HCV.out;have:=HNB.out;omega
    obtain ⟨b,hb⟩:∃ x,((en:Int) == (nb:Int))=x:=⟨_,rfl⟩
    have HFN:Hid (finS s (a:Int) (k:Int)=(s.fd && !s.rs && b)):=by
     show finS s (a:Int) (k:Int)=_
     unfold finS
     rw [henI,HNB.out,← hb]
     rfl
    have HRX:Hid (∀ W,Below wr.heap.size wr W→Rd W wr.heap.size (tailA Av cv a) ((en - a) * 1) (bv ((s.bs.drop a).take k))):=fun W hW=>by
     have h1:=((HRD.out wr HBR.out).more HBR.out.size).below hW (Nat.le_refl _)
     have h2:=(h1.tail cv a (by omega) (by have:=HCV.out;have:=HNB.out;omega)).head k (by omega)
     rw [Nat.mul_one,show en - a=k by omega,bv_take',bv_drop']
     exact h2
    have HSB:Hid (∀ W,Below wr.heap.size wr W→(Below wr.heap.size wr W∧W.cell? ⟨p,0,none⟩=some (.int .i64 s.id)∧W.cell? ⟨p,1,none⟩=some (.slice Av nb cv)∧W.cell? ⟨p,4,none⟩=some (.bool s.fd)∧W.cell? ⟨p,5,none⟩=some (.bool s.rs))):=fun W hW=>by
     obtain ⟨c0,c1,_,_,c4,c5,_⟩:=((HM.out.st.below HBR.out).below hW).cells
     rw [HNB.out] at c1
     exact ⟨hW,c0,c1,c4,c5⟩
    obtain ⟨fd,hfd⟩:∃ x,s.fd=x:=⟨_,rfl⟩
    obtain ⟨rs,hrs⟩:∃ x,s.rs=x:=⟨_,rfl⟩
    rw [hfd,hrs] at HFN HSB
    obtain ⟨xA,hxA⟩:∃ x,(if cv=a then Av else Option.map (fun x=>x.add a) Av)=x:=⟨_,rfl⟩
    have HXA:Hid (tailA Av cv a=xA):=hxA
    rw [HXA.out] at HRX
    go_wp2_with fail
    cases fd
    ·skip
     have HS:=HSB
     clear HSB
     refine wp_region_held_drew (S:=(fun W:World=>Below wr.heap.size wr W∧W.cell? ⟨p,0,none⟩=some (.int .i64 s.id)∧W.cell? ⟨p,1,none⟩=some (.slice Av nb cv)∧W.cell? ⟨p,4,none⟩=some (.bool false)∧W.cell? ⟨p,5,none⟩=some (.bool rs))) (by kernel_rfl) ?_ (fun hHeld=>?_)
     ·exact HS.out _ ((Below.refl wr.heap.size wr).drew)
     refine wpAnyH_take (i:=0) (v:=?_) rfl (by kernel_rfl) (by kernel_rfl) (by kernel_rfl) (fun _ _ _ h=>h) (Or.inl ⟨by rfl,?_⟩) (by assumption) ?_
     rotate_left
     ·intro w hSw;(try dsimp only at hSw);go_simp;try with_reducible rfl
     go_simp
     refine wpAnyH_take (i:=1) (v:=?_) rfl (by kernel_rfl) (by kernel_rfl) (by kernel_rfl) (fun _ _ _ h=>h) (Or.inl ⟨by rfl,?_⟩) (by assumption) ?_
     rotate_left
     ·intro w hSw;(try dsimp only at hSw);go_simp;try with_reducible rfl
     go_simp
     refine wpAnyH_take (i:=2) (v:=?_) rfl (by kernel_rfl) (by kernel_rfl) (by kernel_rfl) (fun _ _ _ h=>h) (Or.inl ⟨by rfl,?_⟩) (by assumption) ?_
     rotate_left
     ·intro w hSw;(try dsimp only at hSw);go_simp;try with_reducible rfl
     go_simp
     refine wpAnyH_take (i:=3) (v:=?_) rfl (by kernel_rfl) (by kernel_rfl) (by kernel_rfl) (fun _ _ _ h=>h) (Or.inl ⟨by rfl,?_⟩) (by assumption) ?_
     rotate_left
     ·intro w hSw;(try dsimp only at hSw);go_simp;try with_reducible rfl
     go_simp
     refine wpAnyH_take (i:=4) (v:=?_) rfl (by kernel_rfl) (by kernel_rfl) (by kernel_rfl) (fun _ _ _ h=>h) (Or.inl ⟨by rfl,?_⟩) (by assumption) ?_
     rotate_left
     ·intro w hSw;(try dsimp only at hSw);go_simp;try with_reducible rfl
     go_simp
     refine wpAnyH_take (i:=5) (v:=?_) rfl (by kernel_rfl) (by kernel_rfl) (by kernel_rfl) (fun _ _ _ h=>h) (Or.inl ⟨by rfl,?_⟩) (by assumption) ?_
     rotate_left
     ·intro w hSw;(try dsimp only at hSw);go_simp;try with_reducible rfl
     go_simp
     refine wpAnyH_take (i:=6) (v:=?_) rfl (by kernel_rfl) (by kernel_rfl) (by kernel_rfl) (fun _ _ _ h=>h) (Or.inl ⟨by rfl,?_⟩) (by assumption) ?_
     rotate_left
     ·intro w hSw;(try dsimp only at hSw);go_simp;try with_reducible rfl
     go_simp
     refine wpAnyH_take (i:=7) (v:=?_) rfl (by kernel_rfl) (by kernel_rfl) (by kernel_rfl) (fun _ _ _ h=>h) (Or.inl ⟨by rfl,?_⟩) (by assumption) ?_
     rotate_left
     ·intro w hSw;(try dsimp only at hSw);go_simp;try with_reducible rfl
     go_simp
     refine wpAnyH_take (i:=8) (v:=?_) rfl (by kernel_rfl) (by kernel_rfl) (by kernel_rfl) (fun _ _ _ h=>h) (Or.inl ⟨by rfl,?_⟩) (by assumption) ?_
     rotate_left
     ·intro w hSw;(try dsimp only at hSw);go_simp;try with_reducible rfl
     go_simp
     refine wpAnyH_take (i:=9) (v:=?_) rfl (by kernel_rfl) (by kernel_rfl) (by kernel_rfl) (fun _ _ _ h=>h) (Or.inl ⟨by rfl,?_⟩) (by assumption) ?_
     rotate_left
     ·intro w hSw;(try dsimp only at hSw);go_simp;try with_reducible rfl
     go_simp
     refine wpAnyH_take (i:=10) (v:=undef) rfl (by kernel_rfl) (by kernel_rfl) (by kernel_rfl) (fun _ _ _ h=>h) (Or.inr ⟨by rfl,rfl⟩) (by assumption) ?_
     go_simp
     refine wpAnyH_take (i:=11) (v:=undef) rfl (by kernel_rfl) (by kernel_rfl) (by kernel_rfl) (fun _ _ _ h=>h) (Or.inr ⟨by rfl,rfl⟩) (by assumption) ?_
     go_simp
     refine wpAnyH_take (i:=12) (v:=undef) rfl (by kernel_rfl) (by kernel_rfl) (by kernel_rfl) (fun _ _ _ h=>h) (Or.inr ⟨by rfl,rfl⟩) (by assumption) ?_
     go_simp
     refine wpAnyH_take (i:=13) (v:=undef) rfl (by kernel_rfl) (by kernel_rfl) (by kernel_rfl) (fun _ _ _ h=>h) (Or.inr ⟨by rfl,rfl⟩) (by assumption) ?_
     go_simp
     refine wpAnyH_take (i:=14) (v:=undef) rfl (by kernel_rfl) (by kernel_rfl) (by kernel_rfl) (fun _ _ _ h=>h) (Or.inr ⟨by rfl,rfl⟩) (by assumption) ?_
     go_simp
     refine wpAnyH_take (i:=15) (v:=?_) rfl (by kernel_rfl) (by kernel_rfl) (by kernel_rfl) (fun _ _ _ h=>h) (Or.inl ⟨by rfl,?_⟩) (by assumption) ?_
     rotate_left
     ·intro w hSw;(try dsimp only at hSw);go_simp;try with_reducible rfl
     go_simp
     refine wpAnyH_take (i:=16) (v:=?_) rfl (by kernel_rfl) (by kernel_rfl) (by kernel_rfl) (fun _ _ _ h=>h) (Or.inl ⟨by rfl,?_⟩) (by assumption) ?_
     rotate_left
     ·intro w hSw;(try dsimp only at hSw);go_simp;try with_reducible rfl
     go_simp
     refine wpAnyH_take (i:=17) (v:=undef) rfl (by kernel_rfl) (by kernel_rfl) (by kernel_rfl) (fun _ _ _ h=>h) (Or.inr ⟨by rfl,rfl⟩) (by assumption) ?_
     go_simp
     refine wpAnyH_take (i:=18) (v:=undef) rfl (by kernel_rfl) (by kernel_rfl) (by kernel_rfl) (fun _ _ _ h=>h) (Or.inr ⟨by rfl,rfl⟩) (by assumption) ?_
     go_simp
     refine wpAnyH_take (i:=19) (v:=undef) rfl (by kernel_rfl) (by kernel_rfl) (by kernel_rfl) (fun _ _ _ h=>h) (Or.inr ⟨by rfl,rfl⟩) (by assumption) ?_
     go_simp
     refine wpAnyH_take (i:=20) (v:=undef) rfl (by kernel_rfl) (by kernel_rfl) (by kernel_rfl) (fun _ _ _ h=>h) (Or.inr ⟨by rfl,rfl⟩) (by assumption) ?_
     go_simp
     refine wpAnyH_take (i:=21) (v:=undef) rfl (by kernel_rfl) (by kernel_rfl) (by kernel_rfl) (fun _ _ _ h=>h) (Or.inr ⟨by rfl,rfl⟩) (by assumption) ?_
     go_simp
     refine wpAnyH_take (i:=22) (v:=undef) rfl (by kernel_rfl) (by kernel_rfl) (by kernel_rfl) (fun _ _ _ h=>h) (Or.inr ⟨by rfl,rfl⟩) (by assumption) ?_
     go_simp
     refine wpAnyH_take (i:=23) (v:=undef) rfl (by kernel_rfl) (by kernel_rfl) (by kernel_rfl) (fun _ _ _ h=>h) (Or.inr ⟨by rfl,rfl⟩) (by assumption) ?_
     go_simp
     refine wpAnyH_take (i:=24) (v:=undef) rfl (by kernel_rfl) (by kernel_rfl) (by kernel_rfl) (fun _ _ _ h=>h) (Or.inr ⟨by rfl,rfl⟩) (by assumption) ?_
     go_simp
     refine wpAnyH_take (i:=25) (v:=undef) rfl (by kernel_rfl) (by kernel_rfl) (by kernel_rfl) (fun _ _ _ h=>h) (Or.inr ⟨by rfl,rfl⟩) (by assumption) ?_
     go_simp
     refine wpAnyH_take (i:=26) (v:=?_) rfl (by kernel_rfl) (by kernel_rfl) (by kernel_rfl) (fun _ _ _ h=>h) (Or.inl ⟨by rfl,?_⟩) (by assumption) ?_
     rotate_left
     ·intro w hSw;(try dsimp only at hSw);go_simp;try with_reducible rfl
     go_simp
     refine wpAnyH_take (i:=28) (v:=?_) rfl (by kernel_rfl) (by kernel_rfl) (by kernel_rfl) (fun _ _ _ h=>h) (Or.inl ⟨by rfl,?_⟩) (by assumption) ?_
     rotate_left
     ·intro w hSw;(try dsimp only at hSw);go_simp;try with_reducible rfl
     go_simp
     refine wpAnyH_take (i:=29) (v:=?_) rfl (by kernel_rfl) (by kernel_rfl) (by kernel_rfl) (fun _ _ _ h=>h) (Or.inl ⟨by rfl,?_⟩) (by assumption) ?_
     rotate_left
     ·intro w hSw;(try dsimp only at hSw);go_simp;try with_reducible rfl
     go_simp
     refine wpAnyH_take (i:=30) (v:=?_) rfl (by kernel_rfl) (by kernel_rfl) (by kernel_rfl) (fun _ _ _ h=>h) (Or.inl ⟨by rfl,?_⟩) (by assumption) ?_
     rotate_left
     ·intro w hSw;(try dsimp only at hSw);go_simp;try with_reducible rfl
     go_simp
     refine wpAnyH_take (i:=31) (v:=?_) rfl (by kernel_rfl) (by kernel_rfl) (by kernel_rfl) (fun _ _ _ h=>h) (Or.inl ⟨by rfl,?_⟩) (by assumption) ?_
     rotate_left
     ·intro w hSw;(try dsimp only at hSw);go_simp;try with_reducible rfl
     go_simp
     refine wpAnyH_take (i:=32) (v:=?_) rfl (by kernel_rfl) (by kernel_rfl) (by kernel_rfl) (fun _ _ _ h=>h) (Or.inl ⟨by rfl,?_⟩) (by assumption) ?_
     rotate_left
     ·intro w hSw;(try dsimp only at hSw);go_simp;try with_reducible rfl
     go_simp
     refine wpAnyH_take (i:=33) (v:=?_) rfl (by kernel_rfl) (by kernel_rfl) (by kernel_rfl) (fun _ _ _ h=>h) (Or.inl ⟨by rfl,?_⟩) (by assumption) ?_
     rotate_left
     ·intro w hSw;(try dsimp only at hSw);go_simp;try with_reducible rfl
     go_simp
     refine wpAnyH_take (i:=34) (v:=?_) rfl (by kernel_rfl) (by kernel_rfl) (by kernel_rfl) (fun _ _ _ h=>h) (Or.inl ⟨by rfl,?_⟩) (by assumption) ?_
     rotate_left
     ·intro w hSw;(try dsimp only at hSw);go_simp;try with_reducible rfl
     go_simp
     refine wpAnyH_take (i:=35) (v:=?_) rfl (by kernel_rfl) (by kernel_rfl) (by kernel_rfl) (fun _ _ _ h=>h) (Or.inl ⟨by rfl,?_⟩) (by assumption) ?_
     rotate_left
     ·intro w hSw;(try dsimp only at hSw);go_simp;try with_reducible rfl
     go_simp
     refine wpAnyH_take (i:=36) (v:=?_) rfl (by kernel_rfl) (by kernel_rfl) (by kernel_rfl) (fun _ _ _ h=>h) (Or.inl ⟨by rfl,?_⟩) (by assumption) ?_
     rotate_left
     ·intro w hSw;(try dsimp only at hSw);go_simp;try with_reducible rfl
     go_simp
     refine wpAnyH_ready (rs:=[27,39]) (by kernel_rfl) (by simp) ?_
     refine AllReadyH.cons rfl (fun K hK=>?_) ?_
     ·skip
      go_simp
      refine hK.out _ _ ?_ (fun hHeld=>?_)
      ·exact HS.out _ (((Below.refl wr.heap.size wr).drew).alloc (Nat.le_refl _) _)
      clear hK K
      go_simp
      refine wpAnyH_ready (rs:=[37,39]) (by kernel_rfl) (by simp) ?_
      refine AllReadyH.cons rfl (fun K hK=>?_) ?_
      ·skip
       have HO0:Hid ((wr.drew.alloc (.cells #[] 5)).ownsRow wr.heap.size 5 1 (.slice (some ⟨wr.heap.size,0,none⟩) 0 0) 0 []):=own_new wr.drew #[] 5 1 0 _ _ rfl rfl (by unfold maxLen;omega) (by simp)
       have HD0:Hid (Below wr.heap.size wr (wr.drew.alloc (.cells #[] 5))):=((Below.refl wr.heap.size wr).drew).alloc (Nat.le_refl _) _
       refine step_own rfl (.tmp 44) (.tmp 53) 30 rfl wr.heap.size 5 i0 (.int .u8 0) 1 1 Try.underlying30 HI.out.1 HI.out.2.1 HI.out.2.2.1 HI.out.2.2.2 rfl (by decide) (.slice (some ⟨wr.heap.size,0,none⟩) 0 0) 0 [] (by simp [Act.eval,Act.put]) HO0.out wr.heap.size xA (en - a) (cv - a) (bv ((s.bs.drop a).take k)) (by simp [Act.eval,Act.put]) (HRX.out _ HD0.out) (ones_bv _) (by unfold maxLen;omega) (by omega) HD0.out.size ?_
       intro v5 w5 ho5 hg5
       have HB5:Hid (Below wr.heap.size wr w5):=HD0.out.grown hg5 HD0.out.size (fun g hg=>(HO0.out.lt g hg).1)
       rw [show 0+(en - a)=k by have:=HEN.out;omega,List.nil_append] at ho5
       obtain ⟨A5,c5,e5,_⟩:=own_form ho5
       subst e5
       have HO5:=Lib.hid ho5
       clear ho5 hg5
       refine hK.out _ _ ?_ (fun hHeld=>?_)
       ·exact HS.out _ HB5.out
       clear hK K
       go_simp
       refine wpAnyH_take (i:=38) (v:=?_) rfl (by kernel_rfl) (by kernel_rfl) (by kernel_rfl) (fun _ _ _ h=>h) (Or.inl ⟨by rfl,?_⟩) (by assumption) ?_
       rotate_left
       ·intro w hSw;(try dsimp only at hSw);go_simp;try with_reducible rfl
       go_simp
       refine wpAnyH_ready (rs:=[39]) (by kernel_rfl) (by simp) ?_
       refine AllReadyH.cons rfl (fun K hK=>?_) AllReadyH.nil
       go_simp
       refine hK.out _ _ ?_ (fun hHeld=>?_)
       ·exact HS.out _ (HB5.out.alloc HB5.out.size _)
       clear hK K
       go_simp
       refine wpAnyH_ready (rs:=[40]) (by kernel_rfl) (by simp) ?_
       refine AllReadyH.cons rfl (fun K hK=>?_) AllReadyH.nil
       go_simp
       refine hK.out _ _ ?_ (fun hHeld=>?_)
       ·exact HS.out _ (HB5.out.alloc HB5.out.size _)
       clear hK K
       go_simp
       refine wpAnyH_done (by kernel_rfl) ?_ _
       obtain ⟨w6,hw6⟩:∃ x,w5.alloc (.cells #[.int .i64 3,.int .i64 s.id,.int .i64 (a:Int),.int .i64 0,.int .i64 0,.int .i64 0,.bool false,.slice A5 k c5,.slice none 0 0] 54)=x:=⟨_,rfl⟩
       obtain ⟨gx,hgx⟩:∃ x,w5.heap.size=x:=⟨_,rfl⟩
       have HB6:Hid (Below wr.heap.size wr w6):=by rw [← hw6];exact HB5.out.alloc HB5.out.size _
       have HX6:Hid (FrB w6 gx 3 s.id (a:Int) 0 0 0 false A5 k c5 none 0 0):=by rw [← hw6,← hgx];exact heap_alloc_new w5 _
       have HO6:Hid (w6.ownsRow wr.heap.size 5 1 (.slice A5 k c5) k (bv ((s.bs.drop a).take k))):=by rw [← hw6];exact HO5.out.alloc _
       rw [hw6,hgx]
       clear hw6 hgx HB5 HO5 HS HRX
       obtain ⟨y0,y1,y2,y3,y4,y5,y6,y7,y8⟩:=HX6.out.cells
       go_wp2_with fail
       refine (HSZ.out false _ A5 k c5 w6 (by have:=Rd.of_own HO6.out;rw [Nat.mul_one] at this;exact this) hk120).mono ?_
       rintro e w7 ⟨rfl,hb7⟩
       have HB7:Hid (Below wr.heap.size wr w7):=HB6.out.trans (hb7.mono HB6.out.size)
       have HX7:Hid (FrB w7 gx 3 s.id (a:Int) 0 0 0 false A5 k c5 none 0 0):=(hb7.block gx (lt_of_block HX6.out)).trans HX6.out
       have HO7:Hid (w7.ownsRow wr.heap.size 5 1 (.slice A5 k c5) k (bv ((s.bs.drop a).take k))):=own_below HO6.out hb7
       clear y0 y1 y2 y3 y4 y5 y6 y7 y8 hb7 HX6 HO6
       obtain ⟨y0,y1,y2,y3,y4,y5,y6,y7,y8⟩:=HX7.out.cells
       obtain ⟨sz,hsz⟩:∃ x,2+(wid s.id:Int)+(wid (a:Int):Int)+(wid (k:Int):Int)+(k:Int)=x:=⟨_,rfl⟩
       have HIF:Hid (sz≤room↔(k:Int)≤K):=by
        have:=HFI.out (k:Int) (by omega) (by have:=HM0.out;omega) hkI
        rw [hsz] at this
        exact this
       rw [hsz]
       clear hsz
       have HBX:Hid (Below w1.heap.size w1 w7):=HBR.out.trans (HB7.out.mono HBR.out.size)
       by_cases hle:sz≤room
       ·have hkK:(k:Int)=K:=by have:=HIF.out.1 hle;omega
        have HG7:Hid (w7.heap[g]?=_):=(HBX.out.block g (lt_of_block HG.out)).trans HG.out
        have HBW:Hid (Below w.heap.size w w7):=HB1.out.trans (HBX.out.mono HB1.out.size)
        have HFN2:Hid (finS s (a:Int) (k:Int)=false):=HFN.out.trans rfl
        have z0:=cell_slot (o:=0) HG7.out rfl
        have f0:=free_slot (o:=0) HG7.out
        have z1:=cell_slot (o:=1) HG7.out rfl
        have f1:=free_slot (o:=1) HG7.out
        have z2:=cell_slot (o:=2) HG7.out rfl
        have f2:=free_slot (o:=2) HG7.out
        have z3:=cell_slot (o:=3) HG7.out rfl
        have f3:=free_slot (o:=3) HG7.out
        have z4:=cell_slot (o:=4) HG7.out rfl
        have f4:=free_slot (o:=4) HG7.out
        have z5:=cell_slot (o:=5) HG7.out rfl
        have f5:=free_slot (o:=5) HG7.out
        have z6:=cell_slot (o:=6) HG7.out rfl
        have f6:=free_slot (o:=6) HG7.out
        have z7:=cell_slot (o:=7) HG7.out rfl
        have f7:=free_slot (o:=7) HG7.out
        have z8:=cell_slot (o:=8) HG7.out rfl
        have f8:=free_slot (o:=8) HG7.out
        go_wp2_with fail
        refine bodyPost_ret (results_row_tmp rfl _ _ g 54 _ (0,0) _ rfl (set_slot (set_slot (set_slot (set_slot (set_slot (set_slot (set_slot (set_slot (set_slot HG7.out 0 _) 1 _) 2 _) 3 _) 4 _) 5 _) 6 _) 7 _) 8 _) Try.underlying54 rfl (by kernel_rfl)) rfl ?_
        refine HQ.out _ _ ?_
        rw [HP.out]
        refine ⟨(below_set (by rw [HGG.out];exact Nat.le_refl _) (below_set (by rw [HGG.out];exact Nat.le_refl _) (below_set (by rw [HGG.out];exact Nat.le_refl _) (below_set (by rw [HGG.out];exact Nat.le_refl _) (below_set (by rw [HGG.out];exact Nat.le_refl _) (below_set (by rw [HGG.out];exact Nat.le_refl _) (below_set (by rw [HGG.out];exact Nat.le_refl _) (below_set (by rw [HGG.out];exact Nat.le_refl _) (below_set (by rw [HGG.out];exact Nat.le_refl _) HBW.out 0 _) 1 _) 2 _) 3 _) 4 _) 5 _) 6 _) 7 _) 8 _),.inr ⟨a,k,A5,c5,rfl,by omega,by rw [HKK.out];exact hkK,by rw [HFN2.out];rfl,?_⟩⟩
        have hgw:g<wr.heap.size:=Nat.lt_of_lt_of_le (lt_of_block HG.out) HBR.out.size
        have hww:w.heap.size≤wr.heap.size:=by rw [HGG.out];exact Nat.le_of_lt hgw
        exact nine_own (own_base HO7.out hww) (fun q hq e=>by have:=(HO7.out.lt q (fp_own.1 hq)).1;omega) _ _ _ _ _ _ _ _ _
       ·have hkK:K≤(k:Int) - 1:=by
         have:¬ (k:Int)≤K:=fun h=>hle (HIF.out.2 h)
         omega
        go_wp2_with fail
        go_roundw
        case rel=>exact ⟨(k:Int) - 1,hkK,by omega,by simp,HBX⟩
        case measure=>simp [intOf];omega
      refine AllReadyH.cons rfl (fun K hK=>?_) ?_
      ·skip
       go_simp
       refine hK.out _ _ ?_ (fun hHeld=>?_)
       ·exact HS.out _ ((((Below.refl wr.heap.size wr).drew).alloc (Nat.le_refl _) _).alloc (by simp) _)
       clear hK K
       go_simp
       refine wpAnyH_ready (rs:=[37]) (by kernel_rfl) (by simp) ?_
       refine AllReadyH.cons rfl (fun K hK=>?_) AllReadyH.nil
       have HO0:Hid (((wr.drew.alloc (.cells #[] 5)).alloc (.cells #[.int .i64 0,.int .i64 0,.int .i64 0,.int .i64 0,.int .i64 0,.int .i64 0,.bool false,.slice none 0 0,.slice none 0 0] 54)).ownsRow wr.heap.size 5 1 (.slice (some ⟨wr.heap.size,0,none⟩) 0 0) 0 []):=(own_new wr.drew #[] 5 1 0 _ _ rfl rfl (by unfold maxLen;omega) (by simp)).alloc _
       have HD0:Hid (Below wr.heap.size wr ((wr.drew.alloc (.cells #[] 5)).alloc (.cells #[.int .i64 0,.int .i64 0,.int .i64 0,.int .i64 0,.int .i64 0,.int .i64 0,.bool false,.slice none 0 0,.slice none 0 0] 54))):=((((Below.refl wr.heap.size wr).drew).alloc (Nat.le_refl _) _).alloc (by simp) _)
       refine step_own rfl (.tmp 44) (.tmp 53) 30 rfl wr.heap.size 5 i0 (.int .u8 0) 1 1 Try.underlying30 HI.out.1 HI.out.2.1 HI.out.2.2.1 HI.out.2.2.2 rfl (by decide) (.slice (some ⟨wr.heap.size,0,none⟩) 0 0) 0 [] (by simp [Act.eval,Act.put]) HO0.out wr.heap.size xA (en - a) (cv - a) (bv ((s.bs.drop a).take k)) (by simp [Act.eval,Act.put]) (HRX.out _ HD0.out) (ones_bv _) (by unfold maxLen;omega) (by omega) HD0.out.size ?_
       intro v5 w5 ho5 hg5
       have HB5:Hid (Below wr.heap.size wr w5):=HD0.out.grown hg5 HD0.out.size (fun g hg=>(HO0.out.lt g hg).1)
       have HGX5:Hid (w5.heap[wr.heap.size+1]?=some (.cells #[.int .i64 0,.int .i64 0,.int .i64 0,.int .i64 0,.int .i64 0,.int .i64 0,.bool false,.slice none 0 0,.slice none 0 0] 54 (0,0))):=(hg5.block _ (lt_of_block (by have h:=heap_alloc_new (wr.drew.alloc (.cells #[] 5)) (.cells #[.int .i64 0,.int .i64 0,.int .i64 0,.int .i64 0,.int .i64 0,.int .i64 0,.bool false,.slice none 0 0,.slice none 0 0] 54);rw [show (wr.drew.alloc (.cells #[] 5)).heap.size=wr.heap.size+1 by simp] at h;exact h)) (by simp [Value.ownBlock])).trans (by have h:=heap_alloc_new (wr.drew.alloc (.cells #[] 5)) (.cells #[.int .i64 0,.int .i64 0,.int .i64 0,.int .i64 0,.int .i64 0,.int .i64 0,.bool false,.slice none 0 0,.slice none 0 0] 54);rw [show (wr.drew.alloc (.cells #[] 5)).heap.size=wr.heap.size+1 by simp] at h;exact h)
       rw [show 0+(en - a)=k by have:=HEN.out;omega,List.nil_append] at ho5
       obtain ⟨A5,c5,e5,_⟩:=own_form ho5
       subst e5
       have HO5:=Lib.hid ho5
       clear ho5 hg5
       refine hK.out _ _ ?_ (fun hHeld=>?_)
       ·exact HS.out _ HB5.out
       clear hK K
       go_simp
       refine wpAnyH_take (i:=38) (v:=?_) rfl (by kernel_rfl) (by kernel_rfl) (by kernel_rfl) (fun _ _ _ h=>h) (Or.inl ⟨by rfl,?_⟩) (by assumption) ?_
       rotate_left
       ·intro w hSw;(try dsimp only at hSw);go_simp;try with_reducible rfl
       go_simp
       refine wpAnyH_ready (rs:=[40]) (by kernel_rfl) (by simp) ?_
       refine AllReadyH.cons rfl (fun K hK=>?_) AllReadyH.nil
       have q0:=cell_slot (o:=0) HGX5.out rfl
       have f0:=free_slot (o:=0) HGX5.out
       have q1:=cell_slot (o:=1) HGX5.out rfl
       have f1:=free_slot (o:=1) HGX5.out
       have q2:=cell_slot (o:=2) HGX5.out rfl
       have f2:=free_slot (o:=2) HGX5.out
       have q3:=cell_slot (o:=3) HGX5.out rfl
       have f3:=free_slot (o:=3) HGX5.out
       have q4:=cell_slot (o:=4) HGX5.out rfl
       have f4:=free_slot (o:=4) HGX5.out
       have q5:=cell_slot (o:=5) HGX5.out rfl
       have f5:=free_slot (o:=5) HGX5.out
       have q6:=cell_slot (o:=6) HGX5.out rfl
       have f6:=free_slot (o:=6) HGX5.out
       have q7:=cell_slot (o:=7) HGX5.out rfl
       have f7:=free_slot (o:=7) HGX5.out
       have q8:=cell_slot (o:=8) HGX5.out rfl
       have f8:=free_slot (o:=8) HGX5.out
       go_simp
       refine hK.out _ _ ?_ (fun hHeld=>?_)
       ·exact HS.out _ (below_set (by simp) (below_set (by simp) (below_set (by simp) (below_set (by simp) (below_set (by simp) (below_set (by simp) (below_set (by simp) (below_set (by simp) (below_set (by simp) HB5.out _ _) _ _) _ _) _ _) _ _) _ _) _ _) _ _) _ _)
       clear hK K
       go_simp
       refine wpAnyH_done (by kernel_rfl) ?_ _
       have hgo:∀ q ∈ fp (.slice A5 k c5),q≠wr.heap.size+1:=fun q hq e=>own_other HO5.out HGX5.out (by decide) (e ▸ fp_own.1 hq)
       have HX5:=nine_heap HGX5.out (.int .i64 3) (.int .i64 s.id) (.int .i64 (a:Int)) (.int .i64 0) (.int .i64 0) (.int .i64 0) (.bool false) (.slice A5 k c5) (.slice none 0 0)
       have HO5':=nine_own HO5.out hgo (.int .i64 3) (.int .i64 s.id) (.int .i64 (a:Int)) (.int .i64 0) (.int .i64 0) (.int .i64 0) (.bool false) (.slice A5 k c5) (.slice none 0 0)
       obtain ⟨w6,hw6⟩:∃ x,(((((((((w5.setCell ⟨wr.heap.size+1,0,none⟩ (.int .i64 3)).setCell ⟨wr.heap.size+1,1,none⟩ (.int .i64 s.id)).setCell ⟨wr.heap.size+1,2,none⟩ (.int .i64 (a:Int))).setCell ⟨wr.heap.size+1,3,none⟩ (.int .i64 0)).setCell ⟨wr.heap.size+1,4,none⟩ (.int .i64 0)).setCell ⟨wr.heap.size+1,5,none⟩ (.int .i64 0)).setCell ⟨wr.heap.size+1,6,none⟩ (.bool false)).setCell ⟨wr.heap.size+1,7,none⟩ (.slice A5 k c5)).setCell ⟨wr.heap.size+1,8,none⟩ (.slice none 0 0))=x:=⟨_,rfl⟩
       have HB6:Hid (Below wr.heap.size wr w6):=by rw [← hw6];exact (below_set (by simp) (below_set (by simp) (below_set (by simp) (below_set (by simp) (below_set (by simp) (below_set (by simp) (below_set (by simp) (below_set (by simp) (below_set (by simp) HB5.out _ _) _ _) _ _) _ _) _ _) _ _) _ _) _ _) _ _)
       obtain ⟨gx,hgx⟩:∃ x,wr.heap.size+1=x:=⟨_,rfl⟩
       have HX6:Hid (FrB w6 gx 3 s.id (a:Int) 0 0 0 false A5 k c5 none 0 0):=by rw [← hw6,← hgx];exact HX5
       have HO6:Hid (w6.ownsRow wr.heap.size 5 1 (.slice A5 k c5) k (bv ((s.bs.drop a).take k))):=by rw [← hw6];exact HO5'
       rw [hw6,hgx]
       clear HX5 HO5' hgo HGX5 q0 q1 q2 q3 q4 q5 q6 q7 q8 f0 f1 f2 f3 f4 f5 f6 f7 f8
       clear hw6 hgx HB5 HO5 HS HRX
       obtain ⟨y0,y1,y2,y3,y4,y5,y6,y7,y8⟩:=HX6.out.cells
       go_wp2_with fail
       refine (HSZ.out false _ A5 k c5 w6 (by have:=Rd.of_own HO6.out;rw [Nat.mul_one] at this;exact this) hk120).mono ?_
       rintro e w7 ⟨rfl,hb7⟩
       have HB7:Hid (Below wr.heap.size wr w7):=HB6.out.trans (hb7.mono HB6.out.size)
       have HX7:Hid (FrB w7 gx 3 s.id (a:Int) 0 0 0 false A5 k c5 none 0 0):=(hb7.block gx (lt_of_block HX6.out)).trans HX6.out
       have HO7:Hid (w7.ownsRow wr.heap.size 5 1 (.slice A5 k c5) k (bv ((s.bs.drop a).take k))):=own_below HO6.out hb7
       clear y0 y1 y2 y3 y4 y5 y6 y7 y8 hb7 HX6 HO6
       obtain ⟨y0,y1,y2,y3,y4,y5,y6,y7,y8⟩:=HX7.out.cells
       obtain ⟨sz,hsz⟩:∃ x,2+(wid s.id:Int)+(wid (a:Int):Int)+(wid (k:Int):Int)+(k:Int)=x:=⟨_,rfl⟩
       have HIF:Hid (sz≤room↔(k:Int)≤K):=by
        have:=HFI.out (k:Int) (by omega) (by have:=HM0.out;omega) hkI
        rw [hsz] at this
        exact this
       rw [hsz]
       clear hsz
       have HBX:Hid (Below w1.heap.size w1 w7):=HBR.out.trans (HB7.out.mono HBR.out.size)
       by_cases hle:sz≤room
       ·have hkK:(k:Int)=K:=by have:=HIF.out.1 hle;omega
        have HG7:Hid (w7.heap[g]?=_):=(HBX.out.block g (lt_of_block HG.out)).trans HG.out
        have HBW:Hid (Below w.heap.size w w7):=HB1.out.trans (HBX.out.mono HB1.out.size)
        have HFN2:Hid (finS s (a:Int) (k:Int)=false):=HFN.out.trans rfl
        have z0:=cell_slot (o:=0) HG7.out rfl
        have f0:=free_slot (o:=0) HG7.out
        have z1:=cell_slot (o:=1) HG7.out rfl
        have f1:=free_slot (o:=1) HG7.out
        have z2:=cell_slot (o:=2) HG7.out rfl
        have f2:=free_slot (o:=2) HG7.out
        have z3:=cell_slot (o:=3) HG7.out rfl
        have f3:=free_slot (o:=3) HG7.out
        have z4:=cell_slot (o:=4) HG7.out rfl
        have f4:=free_slot (o:=4) HG7.out
        have z5:=cell_slot (o:=5) HG7.out rfl
        have f5:=free_slot (o:=5) HG7.out
        have z6:=cell_slot (o:=6) HG7.out rfl
        have f6:=free_slot (o:=6) HG7.out
        have z7:=cell_slot (o:=7) HG7.out rfl
        have f7:=free_slot (o:=7) HG7.out
        have z8:=cell_slot (o:=8) HG7.out rfl
        have f8:=free_slot (o:=8) HG7.out
        go_wp2_with fail
        refine bodyPost_ret (results_row_tmp rfl _ _ g 54 _ (0,0) _ rfl (set_slot (set_slot (set_slot (set_slot (set_slot (set_slot (set_slot (set_slot (set_slot HG7.out 0 _) 1 _) 2 _) 3 _) 4 _) 5 _) 6 _) 7 _) 8 _) Try.underlying54 rfl (by kernel_rfl)) rfl ?_
        refine HQ.out _ _ ?_
        rw [HP.out]
        refine ⟨(below_set (by rw [HGG.out];exact Nat.le_refl _) (below_set (by rw [HGG.out];exact Nat.le_refl _) (below_set (by rw [HGG.out];exact Nat.le_refl _) (below_set (by rw [HGG.out];exact Nat.le_refl _) (below_set (by rw [HGG.out];exact Nat.le_refl _) (below_set (by rw [HGG.out];exact Nat.le_refl _) (below_set (by rw [HGG.out];exact Nat.le_refl _) (below_set (by rw [HGG.out];exact Nat.le_refl _) (below_set (by rw [HGG.out];exact Nat.le_refl _) HBW.out 0 _) 1 _) 2 _) 3 _) 4 _) 5 _) 6 _) 7 _) 8 _),.inr ⟨a,k,A5,c5,rfl,by omega,by rw [HKK.out];exact hkK,by rw [HFN2.out];rfl,?_⟩⟩
        have hgw:g<wr.heap.size:=Nat.lt_of_lt_of_le (lt_of_block HG.out) HBR.out.size
        have hww:w.heap.size≤wr.heap.size:=by rw [HGG.out];exact Nat.le_of_lt hgw
        exact nine_own (own_base HO7.out hww) (fun q hq e=>by have:=(HO7.out.lt q (fp_own.1 hq)).1;omega) _ _ _ _ _ _ _ _ _
       ·have hkK:K≤(k:Int) - 1:=by
         have:¬ (k:Int)≤K:=fun h=>hle (HIF.out.2 h)
         omega
        go_wp2_with fail
        go_roundw
        case rel=>exact ⟨(k:Int) - 1,hkK,by omega,by simp,HBX⟩
        case measure=>simp [intOf];omega
      exact AllReadyH.nil
     refine AllReadyH.cons rfl (fun K hK=>?_) ?_
     ·skip
      go_simp
      refine hK.out _ _ ?_ (fun hHeld=>?_)
      ·exact HS.out _ (((Below.refl wr.heap.size wr).drew).alloc (Nat.le_refl _) _)
      clear hK K
      go_simp
      refine wpAnyH_ready (rs:=[27]) (by kernel_rfl) (by simp) ?_
      refine AllReadyH.cons rfl (fun K hK=>?_) AllReadyH.nil
      go_simp
      refine hK.out _ _ ?_ (fun hHeld=>?_)
      ·exact HS.out _ ((((Below.refl wr.heap.size wr).drew).alloc (Nat.le_refl _) _).alloc (by simp) _)
      clear hK K
      go_simp
      refine wpAnyH_ready (rs:=[37]) (by kernel_rfl) (by simp) ?_
      refine AllReadyH.cons rfl (fun K hK=>?_) AllReadyH.nil
      have HO0:Hid (((wr.drew.alloc (.cells #[.int .i64 0,.int .i64 0,.int .i64 0,.int .i64 0,.int .i64 0,.int .i64 0,.bool false,.slice none 0 0,.slice none 0 0] 54)).alloc (.cells #[] 5)).ownsRow wr.heap.size 5 1 (.slice (some ⟨wr.heap.size+1,0,none⟩) 0 0) 0 []):=own_new (wr.drew.alloc (.cells #[.int .i64 0,.int .i64 0,.int .i64 0,.int .i64 0,.int .i64 0,.int .i64 0,.bool false,.slice none 0 0,.slice none 0 0] 54)) #[] 5 1 0 _ _ (by simp) rfl (by unfold maxLen;omega) (by simp)
      have HD0:Hid (Below wr.heap.size wr ((wr.drew.alloc (.cells #[.int .i64 0,.int .i64 0,.int .i64 0,.int .i64 0,.int .i64 0,.int .i64 0,.bool false,.slice none 0 0,.slice none 0 0] 54)).alloc (.cells #[] 5))):=((((Below.refl wr.heap.size wr).drew).alloc (Nat.le_refl _) _).alloc (by simp) _)
      refine step_own rfl (.tmp 44) (.tmp 53) 30 rfl wr.heap.size 5 i0 (.int .u8 0) 1 1 Try.underlying30 HI.out.1 HI.out.2.1 HI.out.2.2.1 HI.out.2.2.2 rfl (by decide) (.slice (some ⟨wr.heap.size+1,0,none⟩) 0 0) 0 [] (by simp [Act.eval,Act.put]) HO0.out wr.heap.size xA (en - a) (cv - a) (bv ((s.bs.drop a).take k)) (by simp [Act.eval,Act.put]) (HRX.out _ HD0.out) (ones_bv _) (by unfold maxLen;omega) (by omega) HD0.out.size ?_
      intro v5 w5 ho5 hg5
      have HB5:Hid (Below wr.heap.size wr w5):=HD0.out.grown hg5 HD0.out.size (fun g hg=>(HO0.out.lt g hg).1)
      have HGX5:Hid (w5.heap[wr.heap.size]?=some (.cells #[.int .i64 0,.int .i64 0,.int .i64 0,.int .i64 0,.int .i64 0,.int .i64 0,.bool false,.slice none 0 0,.slice none 0 0] 54 (0,0))):=(hg5.block _ (lt_of_block (((Below.refl (wr.heap.size+1) (wr.drew.alloc (.cells #[.int .i64 0,.int .i64 0,.int .i64 0,.int .i64 0,.int .i64 0,.int .i64 0,.bool false,.slice none 0 0,.slice none 0 0] 54))).alloc (by simp) (.cells #[] 5)).block wr.heap.size (by omega) |>.trans (heap_alloc_new wr.drew _))) (by simp [Value.ownBlock])).trans (((Below.refl (wr.heap.size+1) (wr.drew.alloc (.cells #[.int .i64 0,.int .i64 0,.int .i64 0,.int .i64 0,.int .i64 0,.int .i64 0,.bool false,.slice none 0 0,.slice none 0 0] 54))).alloc (by simp) (.cells #[] 5)).block wr.heap.size (by omega) |>.trans (heap_alloc_new wr.drew _))
      rw [show 0+(en - a)=k by have:=HEN.out;omega,List.nil_append] at ho5
      obtain ⟨A5,c5,e5,_⟩:=own_form ho5
      subst e5
      have HO5:=Lib.hid ho5
      clear ho5 hg5
      refine hK.out _ _ ?_ (fun hHeld=>?_)
      ·exact HS.out _ HB5.out
      clear hK K
      go_simp
      refine wpAnyH_take (i:=38) (v:=?_) rfl (by kernel_rfl) (by kernel_rfl) (by kernel_rfl) (fun _ _ _ h=>h) (Or.inl ⟨by rfl,?_⟩) (by assumption) ?_
      rotate_left
      ·intro w hSw;(try dsimp only at hSw);go_simp;try with_reducible rfl
      go_simp
      refine wpAnyH_ready (rs:=[40]) (by kernel_rfl) (by simp) ?_
      refine AllReadyH.cons rfl (fun K hK=>?_) AllReadyH.nil
      have q0:=cell_slot (o:=0) HGX5.out rfl
      have f0:=free_slot (o:=0) HGX5.out
      have q1:=cell_slot (o:=1) HGX5.out rfl
      have f1:=free_slot (o:=1) HGX5.out
      have q2:=cell_slot (o:=2) HGX5.out rfl
      have f2:=free_slot (o:=2) HGX5.out
      have q3:=cell_slot (o:=3) HGX5.out rfl
      have f3:=free_slot (o:=3) HGX5.out
      have q4:=cell_slot (o:=4) HGX5.out rfl
      have f4:=free_slot (o:=4) HGX5.out
      have q5:=cell_slot (o:=5) HGX5.out rfl
      have f5:=free_slot (o:=5) HGX5.out
      have q6:=cell_slot (o:=6) HGX5.out rfl
      have f6:=free_slot (o:=6) HGX5.out
      have q7:=cell_slot (o:=7) HGX5.out rfl
      have f7:=free_slot (o:=7) HGX5.out
      have q8:=cell_slot (o:=8) HGX5.out rfl
      have f8:=free_slot (o:=8) HGX5.out
      go_simp
      refine hK.out _ _ ?_ (fun hHeld=>?_)
      ·exact HS.out _ (below_set (by simp) (below_set (by simp) (below_set (by simp) (below_set (by simp) (below_set (by simp) (below_set (by simp) (below_set (by simp) (below_set (by simp) (below_set (by simp) HB5.out _ _) _ _) _ _) _ _) _ _) _ _) _ _) _ _) _ _)
      clear hK K
      go_simp
      refine wpAnyH_done (by kernel_rfl) ?_ _
      have hgo:∀ q ∈ fp (.slice A5 k c5),q≠wr.heap.size:=fun q hq e=>own_other HO5.out HGX5.out (by decide) (e ▸ fp_own.1 hq)
      have HX5:=nine_heap HGX5.out (.int .i64 3) (.int .i64 s.id) (.int .i64 (a:Int)) (.int .i64 0) (.int .i64 0) (.int .i64 0) (.bool false) (.slice A5 k c5) (.slice none 0 0)
      have HO5':=nine_own HO5.out hgo (.int .i64 3) (.int .i64 s.id) (.int .i64 (a:Int)) (.int .i64 0) (.int .i64 0) (.int .i64 0) (.bool false) (.slice A5 k c5) (.slice none 0 0)
      obtain ⟨w6,hw6⟩:∃ x,(((((((((w5.setCell ⟨wr.heap.size,0,none⟩ (.int .i64 3)).setCell ⟨wr.heap.size,1,none⟩ (.int .i64 s.id)).setCell ⟨wr.heap.size,2,none⟩ (.int .i64 (a:Int))).setCell ⟨wr.heap.size,3,none⟩ (.int .i64 0)).setCell ⟨wr.heap.size,4,none⟩ (.int .i64 0)).setCell ⟨wr.heap.size,5,none⟩ (.int .i64 0)).setCell ⟨wr.heap.size,6,none⟩ (.bool false)).setCell ⟨wr.heap.size,7,none⟩ (.slice A5 k c5)).setCell ⟨wr.heap.size,8,none⟩ (.slice none 0 0))=x:=⟨_,rfl⟩
      have HB6:Hid (Below wr.heap.size wr w6):=by rw [← hw6];exact (below_set (by simp) (below_set (by simp) (below_set (by simp) (below_set (by simp) (below_set (by simp) (below_set (by simp) (below_set (by simp) (below_set (by simp) (below_set (by simp) HB5.out _ _) _ _) _ _) _ _) _ _) _ _) _ _) _ _) _ _)
      obtain ⟨gx,hgx⟩:∃ x,wr.heap.size=x:=⟨_,rfl⟩
      have HX6:Hid (FrB w6 gx 3 s.id (a:Int) 0 0 0 false A5 k c5 none 0 0):=by rw [← hw6,← hgx];exact HX5
      have HO6:Hid (w6.ownsRow wr.heap.size 5 1 (.slice A5 k c5) k (bv ((s.bs.drop a).take k))):=by rw [← hw6];exact HO5'
      rw [hw6,hgx]
      clear HX5 HO5' hgo HGX5 q0 q1 q2 q3 q4 q5 q6 q7 q8 f0 f1 f2 f3 f4 f5 f6 f7 f8
      clear hw6 hgx HB5 HO5 HS HRX
      obtain ⟨y0,y1,y2,y3,y4,y5,y6,y7,y8⟩:=HX6.out.cells
      go_wp2_with fail
      refine (HSZ.out false _ A5 k c5 w6 (by have:=Rd.of_own HO6.out;rw [Nat.mul_one] at this;exact this) hk120).mono ?_
      rintro e w7 ⟨rfl,hb7⟩
      have HB7:Hid (Below wr.heap.size wr w7):=HB6.out.trans (hb7.mono HB6.out.size)
      have HX7:Hid (FrB w7 gx 3 s.id (a:Int) 0 0 0 false A5 k c5 none 0 0):=(hb7.block gx (lt_of_block HX6.out)).trans HX6.out
      have HO7:Hid (w7.ownsRow wr.heap.size 5 1 (.slice A5 k c5) k (bv ((s.bs.drop a).take k))):=own_below HO6.out hb7
      clear y0 y1 y2 y3 y4 y5 y6 y7 y8 hb7 HX6 HO6
      obtain ⟨y0,y1,y2,y3,y4,y5,y6,y7,y8⟩:=HX7.out.cells
      obtain ⟨sz,hsz⟩:∃ x,2+(wid s.id:Int)+(wid (a:Int):Int)+(wid (k:Int):Int)+(k:Int)=x:=⟨_,rfl⟩
      have HIF:Hid (sz≤room↔(k:Int)≤K):=by
       have:=HFI.out (k:Int) (by omega) (by have:=HM0.out;omega) hkI
       rw [hsz] at this
       exact this
      rw [hsz]
      clear hsz
      have HBX:Hid (Below w1.heap.size w1 w7):=HBR.out.trans (HB7.out.mono HBR.out.size)
      by_cases hle:sz≤room
      ·have hkK:(k:Int)=K:=by have:=HIF.out.1 hle;omega
       have HG7:Hid (w7.heap[g]?=_):=(HBX.out.block g (lt_of_block HG.out)).trans HG.out
       have HBW:Hid (Below w.heap.size w w7):=HB1.out.trans (HBX.out.mono HB1.out.size)
       have HFN2:Hid (finS s (a:Int) (k:Int)=false):=HFN.out.trans rfl
       have z0:=cell_slot (o:=0) HG7.out rfl
       have f0:=free_slot (o:=0) HG7.out
       have z1:=cell_slot (o:=1) HG7.out rfl
       have f1:=free_slot (o:=1) HG7.out
       have z2:=cell_slot (o:=2) HG7.out rfl
       have f2:=free_slot (o:=2) HG7.out
       have z3:=cell_slot (o:=3) HG7.out rfl
       have f3:=free_slot (o:=3) HG7.out
       have z4:=cell_slot (o:=4) HG7.out rfl
       have f4:=free_slot (o:=4) HG7.out
       have z5:=cell_slot (o:=5) HG7.out rfl
       have f5:=free_slot (o:=5) HG7.out
       have z6:=cell_slot (o:=6) HG7.out rfl
       have f6:=free_slot (o:=6) HG7.out
       have z7:=cell_slot (o:=7) HG7.out rfl
       have f7:=free_slot (o:=7) HG7.out
       have z8:=cell_slot (o:=8) HG7.out rfl
       have f8:=free_slot (o:=8) HG7.out
       go_wp2_with fail
       refine bodyPost_ret (results_row_tmp rfl _ _ g 54 _ (0,0) _ rfl (set_slot (set_slot (set_slot (set_slot (set_slot (set_slot (set_slot (set_slot (set_slot HG7.out 0 _) 1 _) 2 _) 3 _) 4 _) 5 _) 6 _) 7 _) 8 _) Try.underlying54 rfl (by kernel_rfl)) rfl ?_
       refine HQ.out _ _ ?_
       rw [HP.out]
       refine ⟨(below_set (by rw [HGG.out];exact Nat.le_refl _) (below_set (by rw [HGG.out];exact Nat.le_refl _) (below_set (by rw [HGG.out];exact Nat.le_refl _) (below_set (by rw [HGG.out];exact Nat.le_refl _) (below_set (by rw [HGG.out];exact Nat.le_refl _) (below_set (by rw [HGG.out];exact Nat.le_refl _) (below_set (by rw [HGG.out];exact Nat.le_refl _) (below_set (by rw [HGG.out];exact Nat.le_refl _) (below_set (by rw [HGG.out];exact Nat.le_refl _) HBW.out 0 _) 1 _) 2 _) 3 _) 4 _) 5 _) 6 _) 7 _) 8 _),.inr ⟨a,k,A5,c5,rfl,by omega,by rw [HKK.out];exact hkK,by rw [HFN2.out];rfl,?_⟩⟩
       have hgw:g<wr.heap.size:=Nat.lt_of_lt_of_le (lt_of_block HG.out) HBR.out.size
       have hww:w.heap.size≤wr.heap.size:=by rw [HGG.out];exact Nat.le_of_lt hgw
       exact nine_own (own_base HO7.out hww) (fun q hq e=>by have:=(HO7.out.lt q (fp_own.1 hq)).1;omega) _ _ _ _ _ _ _ _ _
      ·have hkK:K≤(k:Int) - 1:=by
        have:¬ (k:Int)≤K:=fun h=>hle (HIF.out.2 h)
        omega
       go_wp2_with fail
       go_roundw
       case rel=>exact ⟨(k:Int) - 1,hkK,by omega,by simp,HBX⟩
       case measure=>simp [intOf];omega
     exact AllReadyH.nil
    ·cases rs
     ·skip
      have HS:=HSB
      clear HSB
      refine wp_region_held_drew (S:=(fun W:World=>Below wr.heap.size wr W∧W.cell? ⟨p,0,none⟩=some (.int .i64 s.id)∧W.cell? ⟨p,1,none⟩=some (.slice Av nb cv)∧W.cell? ⟨p,4,none⟩=some (.bool true)∧W.cell? ⟨p,5,none⟩=some (.bool false))) (by kernel_rfl) ?_ (fun hHeld=>?_)
      ·exact HS.out _ ((Below.refl wr.heap.size wr).drew)
      refine wpAnyH_take (i:=0) (v:=?_) rfl (by kernel_rfl) (by kernel_rfl) (by kernel_rfl) (fun _ _ _ h=>h) (Or.inl ⟨by rfl,?_⟩) (by assumption) ?_
      rotate_left
      ·intro w hSw;(try dsimp only at hSw);go_simp;try with_reducible rfl
      go_simp
      refine wpAnyH_take (i:=1) (v:=?_) rfl (by kernel_rfl) (by kernel_rfl) (by kernel_rfl) (fun _ _ _ h=>h) (Or.inl ⟨by rfl,?_⟩) (by assumption) ?_
      rotate_left
      ·intro w hSw;(try dsimp only at hSw);go_simp;try with_reducible rfl
      go_simp
      refine wpAnyH_take (i:=2) (v:=?_) rfl (by kernel_rfl) (by kernel_rfl) (by kernel_rfl) (fun _ _ _ h=>h) (Or.inl ⟨by rfl,?_⟩) (by assumption) ?_
      rotate_left
      ·intro w hSw;(try dsimp only at hSw);go_simp;try with_reducible rfl
      go_simp
      refine wpAnyH_take (i:=3) (v:=?_) rfl (by kernel_rfl) (by kernel_rfl) (by kernel_rfl) (fun _ _ _ h=>h) (Or.inl ⟨by rfl,?_⟩) (by assumption) ?_
      rotate_left
      ·intro w hSw;(try dsimp only at hSw);go_simp;try with_reducible rfl
      go_simp
      refine wpAnyH_take (i:=4) (v:=?_) rfl (by kernel_rfl) (by kernel_rfl) (by kernel_rfl) (fun _ _ _ h=>h) (Or.inl ⟨by rfl,?_⟩) (by assumption) ?_
      rotate_left
      ·intro w hSw;(try dsimp only at hSw);go_simp;try with_reducible rfl
      go_simp
      refine wpAnyH_take (i:=5) (v:=?_) rfl (by kernel_rfl) (by kernel_rfl) (by kernel_rfl) (fun _ _ _ h=>h) (Or.inl ⟨by rfl,?_⟩) (by assumption) ?_
      rotate_left
      ·intro w hSw;(try dsimp only at hSw);go_simp;try with_reducible rfl
      go_simp
      refine wpAnyH_take (i:=6) (v:=?_) rfl (by kernel_rfl) (by kernel_rfl) (by kernel_rfl) (fun _ _ _ h=>h) (Or.inl ⟨by rfl,?_⟩) (by assumption) ?_
      rotate_left
      ·intro w hSw;(try dsimp only at hSw);go_simp;try with_reducible rfl
      go_simp
      refine wpAnyH_take (i:=7) (v:=?_) rfl (by kernel_rfl) (by kernel_rfl) (by kernel_rfl) (fun _ _ _ h=>h) (Or.inl ⟨by rfl,?_⟩) (by assumption) ?_
      rotate_left
      ·intro w hSw;(try dsimp only at hSw);go_simp;try with_reducible rfl
      go_simp
      refine wpAnyH_take (i:=8) (v:=?_) rfl (by kernel_rfl) (by kernel_rfl) (by kernel_rfl) (fun _ _ _ h=>h) (Or.inl ⟨by rfl,?_⟩) (by assumption) ?_
      rotate_left
      ·intro w hSw;(try dsimp only at hSw);go_simp;try with_reducible rfl
      go_simp
      refine wpAnyH_take (i:=9) (v:=?_) rfl (by kernel_rfl) (by kernel_rfl) (by kernel_rfl) (fun _ _ _ h=>h) (Or.inl ⟨by rfl,?_⟩) (by assumption) ?_
      rotate_left
      ·intro w hSw;(try dsimp only at hSw);go_simp;try with_reducible rfl
      go_simp
      refine wpAnyH_take (i:=10) (v:=?_) rfl (by kernel_rfl) (by kernel_rfl) (by kernel_rfl) (fun _ _ _ h=>h) (Or.inl ⟨by rfl,?_⟩) (by assumption) ?_
      rotate_left
      ·intro w hSw;(try dsimp only at hSw);go_simp;try with_reducible rfl
      go_simp
      refine wpAnyH_take (i:=11) (v:=?_) rfl (by kernel_rfl) (by kernel_rfl) (by kernel_rfl) (fun _ _ _ h=>h) (Or.inl ⟨by rfl,?_⟩) (by assumption) ?_
      rotate_left
      ·intro w hSw;(try dsimp only at hSw);go_simp;try with_reducible rfl
      go_simp
      refine wpAnyH_take (i:=12) (v:=?_) rfl (by kernel_rfl) (by kernel_rfl) (by kernel_rfl) (fun _ _ _ h=>h) (Or.inl ⟨by rfl,?_⟩) (by assumption) ?_
      rotate_left
      ·intro w hSw;(try dsimp only at hSw);go_simp;try with_reducible rfl
      go_simp
      refine wpAnyH_take (i:=13) (v:=?_) rfl (by kernel_rfl) (by kernel_rfl) (by kernel_rfl) (fun _ _ _ h=>h) (Or.inl ⟨by rfl,?_⟩) (by assumption) ?_
      rotate_left
      ·intro w hSw;(try dsimp only at hSw);go_simp;try with_reducible rfl
      go_simp
      refine wpAnyH_take (i:=14) (v:=?_) rfl (by kernel_rfl) (by kernel_rfl) (by kernel_rfl) (fun _ _ _ h=>h) (Or.inl ⟨by rfl,?_⟩) (by assumption) ?_
      rotate_left
      ·intro w hSw;(try dsimp only at hSw);go_simp;try with_reducible rfl
      go_simp
      refine wpAnyH_take (i:=15) (v:=?_) rfl (by kernel_rfl) (by kernel_rfl) (by kernel_rfl) (fun _ _ _ h=>h) (Or.inl ⟨by rfl,?_⟩) (by assumption) ?_
      rotate_left
      ·intro w hSw;(try dsimp only at hSw);go_simp;try with_reducible rfl
      go_simp
      refine wpAnyH_take (i:=16) (v:=?_) rfl (by kernel_rfl) (by kernel_rfl) (by kernel_rfl) (fun _ _ _ h=>h) (Or.inl ⟨by rfl,?_⟩) (by assumption) ?_
      rotate_left
      ·intro w hSw;(try dsimp only at hSw);go_simp;try with_reducible rfl
      go_simp
      refine wpAnyH_take (i:=17) (v:=?_) rfl (by kernel_rfl) (by kernel_rfl) (by kernel_rfl) (fun _ _ _ h=>h) (Or.inl ⟨by rfl,?_⟩) (by assumption) ?_
      rotate_left
      ·intro w hSw;(try dsimp only at hSw);go_simp;try with_reducible rfl
      go_simp
      refine wpAnyH_take (i:=18) (v:=?_) rfl (by kernel_rfl) (by kernel_rfl) (by kernel_rfl) (fun _ _ _ h=>h) (Or.inl ⟨by rfl,?_⟩) (by assumption) ?_
      rotate_left
      ·intro w hSw;(try dsimp only at hSw);go_simp;try with_reducible rfl
      go_simp
      refine wpAnyH_take (i:=19) (v:=?_) rfl (by kernel_rfl) (by kernel_rfl) (by kernel_rfl) (fun _ _ _ h=>h) (Or.inl ⟨by rfl,?_⟩) (by assumption) ?_
      rotate_left
      ·intro w hSw;(try dsimp only at hSw);go_simp;try with_reducible rfl
      go_simp
      refine wpAnyH_take (i:=20) (v:=?_) rfl (by kernel_rfl) (by kernel_rfl) (by kernel_rfl) (fun _ _ _ h=>h) (Or.inl ⟨by rfl,?_⟩) (by assumption) ?_
      rotate_left
      ·intro w hSw;(try dsimp only at hSw);go_simp;try with_reducible rfl
      go_simp
      refine wpAnyH_take (i:=21) (v:=?_) rfl (by kernel_rfl) (by kernel_rfl) (by kernel_rfl) (fun _ _ _ h=>h) (Or.inl ⟨by rfl,?_⟩) (by assumption) ?_
      rotate_left
      ·intro w hSw;(try dsimp only at hSw);go_simp;try with_reducible rfl
      go_simp
      refine wpAnyH_take (i:=22) (v:=?_) rfl (by kernel_rfl) (by kernel_rfl) (by kernel_rfl) (fun _ _ _ h=>h) (Or.inl ⟨by rfl,?_⟩) (by assumption) ?_
      rotate_left
      ·intro w hSw;(try dsimp only at hSw);go_simp;try with_reducible rfl
      go_simp
      refine wpAnyH_take (i:=23) (v:=?_) rfl (by kernel_rfl) (by kernel_rfl) (by kernel_rfl) (fun _ _ _ h=>h) (Or.inl ⟨by rfl,?_⟩) (by assumption) ?_
      rotate_left
      ·intro w hSw;(try dsimp only at hSw);go_simp;try with_reducible rfl
      go_simp
      refine wpAnyH_take (i:=24) (v:=?_) rfl (by kernel_rfl) (by kernel_rfl) (by kernel_rfl) (fun _ _ _ h=>h) (Or.inl ⟨by rfl,?_⟩) (by assumption) ?_
      rotate_left
      ·intro w hSw;(try dsimp only at hSw);go_simp;try with_reducible rfl
      go_simp
      refine wpAnyH_take (i:=25) (v:=?_) rfl (by kernel_rfl) (by kernel_rfl) (by kernel_rfl) (fun _ _ _ h=>h) (Or.inl ⟨by rfl,?_⟩) (by assumption) ?_
      rotate_left
      ·intro w hSw;(try dsimp only at hSw);go_simp;try with_reducible rfl
      go_simp
      refine wpAnyH_take (i:=26) (v:=?_) rfl (by kernel_rfl) (by kernel_rfl) (by kernel_rfl) (fun _ _ _ h=>h) (Or.inl ⟨by rfl,?_⟩) (by assumption) ?_
      rotate_left
      ·intro w hSw;(try dsimp only at hSw);go_simp;try with_reducible rfl
      go_simp
      refine wpAnyH_take (i:=28) (v:=?_) rfl (by kernel_rfl) (by kernel_rfl) (by kernel_rfl) (fun _ _ _ h=>h) (Or.inl ⟨by rfl,?_⟩) (by assumption) ?_
      rotate_left
      ·intro w hSw;(try dsimp only at hSw);go_simp;try with_reducible rfl
      go_simp
      refine wpAnyH_take (i:=29) (v:=?_) rfl (by kernel_rfl) (by kernel_rfl) (by kernel_rfl) (fun _ _ _ h=>h) (Or.inl ⟨by rfl,?_⟩) (by assumption) ?_
      rotate_left
      ·intro w hSw;(try dsimp only at hSw);go_simp;try with_reducible rfl
      go_simp
      refine wpAnyH_take (i:=30) (v:=?_) rfl (by kernel_rfl) (by kernel_rfl) (by kernel_rfl) (fun _ _ _ h=>h) (Or.inl ⟨by rfl,?_⟩) (by assumption) ?_
      rotate_left
      ·intro w hSw;(try dsimp only at hSw);go_simp;try with_reducible rfl
      go_simp
      refine wpAnyH_take (i:=31) (v:=?_) rfl (by kernel_rfl) (by kernel_rfl) (by kernel_rfl) (fun _ _ _ h=>h) (Or.inl ⟨by rfl,?_⟩) (by assumption) ?_
      rotate_left
      ·intro w hSw;(try dsimp only at hSw);go_simp;try with_reducible rfl
      go_simp
      refine wpAnyH_take (i:=32) (v:=?_) rfl (by kernel_rfl) (by kernel_rfl) (by kernel_rfl) (fun _ _ _ h=>h) (Or.inl ⟨by rfl,?_⟩) (by assumption) ?_
      rotate_left
      ·intro w hSw;(try dsimp only at hSw);go_simp;try with_reducible rfl
      go_simp
      refine wpAnyH_take (i:=33) (v:=?_) rfl (by kernel_rfl) (by kernel_rfl) (by kernel_rfl) (fun _ _ _ h=>h) (Or.inl ⟨by rfl,?_⟩) (by assumption) ?_
      rotate_left
      ·intro w hSw;(try dsimp only at hSw);go_simp;try with_reducible rfl
      go_simp
      refine wpAnyH_take (i:=34) (v:=?_) rfl (by kernel_rfl) (by kernel_rfl) (by kernel_rfl) (fun _ _ _ h=>h) (Or.inl ⟨by rfl,?_⟩) (by assumption) ?_
      rotate_left
      ·intro w hSw;(try dsimp only at hSw);go_simp;try with_reducible rfl
      go_simp
      refine wpAnyH_take (i:=35) (v:=?_) rfl (by kernel_rfl) (by kernel_rfl) (by kernel_rfl) (fun _ _ _ h=>h) (Or.inl ⟨by rfl,?_⟩) (by assumption) ?_
      rotate_left
      ·intro w hSw;(try dsimp only at hSw);go_simp;try with_reducible rfl
      go_simp
      refine wpAnyH_take (i:=36) (v:=?_) rfl (by kernel_rfl) (by kernel_rfl) (by kernel_rfl) (fun _ _ _ h=>h) (Or.inl ⟨by rfl,?_⟩) (by assumption) ?_
      rotate_left
      ·intro w hSw;(try dsimp only at hSw);go_simp;try with_reducible rfl
      go_simp
      refine wpAnyH_ready (rs:=[27,39]) (by kernel_rfl) (by simp) ?_
      refine AllReadyH.cons rfl (fun K hK=>?_) ?_
      ·skip
       go_simp
       refine hK.out _ _ ?_ (fun hHeld=>?_)
       ·exact HS.out _ (((Below.refl wr.heap.size wr).drew).alloc (Nat.le_refl _) _)
       clear hK K
       go_simp
       refine wpAnyH_ready (rs:=[37,39]) (by kernel_rfl) (by simp) ?_
       refine AllReadyH.cons rfl (fun K hK=>?_) ?_
       ·skip
        have HO0:Hid ((wr.drew.alloc (.cells #[] 5)).ownsRow wr.heap.size 5 1 (.slice (some ⟨wr.heap.size,0,none⟩) 0 0) 0 []):=own_new wr.drew #[] 5 1 0 _ _ rfl rfl (by unfold maxLen;omega) (by simp)
        have HD0:Hid (Below wr.heap.size wr (wr.drew.alloc (.cells #[] 5))):=((Below.refl wr.heap.size wr).drew).alloc (Nat.le_refl _) _
        refine step_own rfl (.tmp 44) (.tmp 53) 30 rfl wr.heap.size 5 i0 (.int .u8 0) 1 1 Try.underlying30 HI.out.1 HI.out.2.1 HI.out.2.2.1 HI.out.2.2.2 rfl (by decide) (.slice (some ⟨wr.heap.size,0,none⟩) 0 0) 0 [] (by simp [Act.eval,Act.put]) HO0.out wr.heap.size xA (en - a) (cv - a) (bv ((s.bs.drop a).take k)) (by simp [Act.eval,Act.put]) (HRX.out _ HD0.out) (ones_bv _) (by unfold maxLen;omega) (by omega) HD0.out.size ?_
        intro v5 w5 ho5 hg5
        have HB5:Hid (Below wr.heap.size wr w5):=HD0.out.grown hg5 HD0.out.size (fun g hg=>(HO0.out.lt g hg).1)
        rw [show 0+(en - a)=k by have:=HEN.out;omega,List.nil_append] at ho5
        obtain ⟨A5,c5,e5,_⟩:=own_form ho5
        subst e5
        have HO5:=Lib.hid ho5
        clear ho5 hg5
        refine hK.out _ _ ?_ (fun hHeld=>?_)
        ·exact HS.out _ HB5.out
        clear hK K
        go_simp
        refine wpAnyH_take (i:=38) (v:=?_) rfl (by kernel_rfl) (by kernel_rfl) (by kernel_rfl) (fun _ _ _ h=>h) (Or.inl ⟨by rfl,?_⟩) (by assumption) ?_
        rotate_left
        ·intro w hSw;(try dsimp only at hSw);go_simp;try with_reducible rfl
        go_simp
        refine wpAnyH_ready (rs:=[39]) (by kernel_rfl) (by simp) ?_
        refine AllReadyH.cons rfl (fun K hK=>?_) AllReadyH.nil
        go_simp
        refine hK.out _ _ ?_ (fun hHeld=>?_)
        ·exact HS.out _ (HB5.out.alloc HB5.out.size _)
        clear hK K
        go_simp
        refine wpAnyH_ready (rs:=[40]) (by kernel_rfl) (by simp) ?_
        refine AllReadyH.cons rfl (fun K hK=>?_) AllReadyH.nil
        go_simp
        refine hK.out _ _ ?_ (fun hHeld=>?_)
        ·exact HS.out _ (HB5.out.alloc HB5.out.size _)
        clear hK K
        go_simp
        refine wpAnyH_done (by kernel_rfl) ?_ _
        obtain ⟨w6,hw6⟩:∃ x,w5.alloc (.cells #[.int .i64 3,.int .i64 s.id,.int .i64 (a:Int),.int .i64 0,.int .i64 0,.int .i64 0,.bool b,.slice A5 k c5,.slice none 0 0] 54)=x:=⟨_,rfl⟩
        obtain ⟨gx,hgx⟩:∃ x,w5.heap.size=x:=⟨_,rfl⟩
        have HB6:Hid (Below wr.heap.size wr w6):=by rw [← hw6];exact HB5.out.alloc HB5.out.size _
        have HX6:Hid (FrB w6 gx 3 s.id (a:Int) 0 0 0 b A5 k c5 none 0 0):=by rw [← hw6,← hgx];exact heap_alloc_new w5 _
        have HO6:Hid (w6.ownsRow wr.heap.size 5 1 (.slice A5 k c5) k (bv ((s.bs.drop a).take k))):=by rw [← hw6];exact HO5.out.alloc _
        rw [hw6,hgx]
        clear hw6 hgx HB5 HO5 HS HRX
        obtain ⟨y0,y1,y2,y3,y4,y5,y6,y7,y8⟩:=HX6.out.cells
        go_wp2_with fail
        refine (HSZ.out b _ A5 k c5 w6 (by have:=Rd.of_own HO6.out;rw [Nat.mul_one] at this;exact this) hk120).mono ?_
        rintro e w7 ⟨rfl,hb7⟩
        have HB7:Hid (Below wr.heap.size wr w7):=HB6.out.trans (hb7.mono HB6.out.size)
        have HX7:Hid (FrB w7 gx 3 s.id (a:Int) 0 0 0 b A5 k c5 none 0 0):=(hb7.block gx (lt_of_block HX6.out)).trans HX6.out
        have HO7:Hid (w7.ownsRow wr.heap.size 5 1 (.slice A5 k c5) k (bv ((s.bs.drop a).take k))):=own_below HO6.out hb7
        clear y0 y1 y2 y3 y4 y5 y6 y7 y8 hb7 HX6 HO6
        obtain ⟨y0,y1,y2,y3,y4,y5,y6,y7,y8⟩:=HX7.out.cells
        obtain ⟨sz,hsz⟩:∃ x,2+(wid s.id:Int)+(wid (a:Int):Int)+(wid (k:Int):Int)+(k:Int)=x:=⟨_,rfl⟩
        have HIF:Hid (sz≤room↔(k:Int)≤K):=by
         have:=HFI.out (k:Int) (by omega) (by have:=HM0.out;omega) hkI
         rw [hsz] at this
         exact this
        rw [hsz]
        clear hsz
        have HBX:Hid (Below w1.heap.size w1 w7):=HBR.out.trans (HB7.out.mono HBR.out.size)
        by_cases hle:sz≤room
        ·have hkK:(k:Int)=K:=by have:=HIF.out.1 hle;omega
         have HG7:Hid (w7.heap[g]?=_):=(HBX.out.block g (lt_of_block HG.out)).trans HG.out
         have HBW:Hid (Below w.heap.size w w7):=HB1.out.trans (HBX.out.mono HB1.out.size)
         have HFN2:Hid (finS s (a:Int) (k:Int)=b):=HFN.out.trans rfl
         have z0:=cell_slot (o:=0) HG7.out rfl
         have f0:=free_slot (o:=0) HG7.out
         have z1:=cell_slot (o:=1) HG7.out rfl
         have f1:=free_slot (o:=1) HG7.out
         have z2:=cell_slot (o:=2) HG7.out rfl
         have f2:=free_slot (o:=2) HG7.out
         have z3:=cell_slot (o:=3) HG7.out rfl
         have f3:=free_slot (o:=3) HG7.out
         have z4:=cell_slot (o:=4) HG7.out rfl
         have f4:=free_slot (o:=4) HG7.out
         have z5:=cell_slot (o:=5) HG7.out rfl
         have f5:=free_slot (o:=5) HG7.out
         have z6:=cell_slot (o:=6) HG7.out rfl
         have f6:=free_slot (o:=6) HG7.out
         have z7:=cell_slot (o:=7) HG7.out rfl
         have f7:=free_slot (o:=7) HG7.out
         have z8:=cell_slot (o:=8) HG7.out rfl
         have f8:=free_slot (o:=8) HG7.out
         go_wp2_with fail
         refine bodyPost_ret (results_row_tmp rfl _ _ g 54 _ (0,0) _ rfl (set_slot (set_slot (set_slot (set_slot (set_slot (set_slot (set_slot (set_slot (set_slot HG7.out 0 _) 1 _) 2 _) 3 _) 4 _) 5 _) 6 _) 7 _) 8 _) Try.underlying54 rfl (by kernel_rfl)) rfl ?_
         refine HQ.out _ _ ?_
         rw [HP.out]
         refine ⟨(below_set (by rw [HGG.out];exact Nat.le_refl _) (below_set (by rw [HGG.out];exact Nat.le_refl _) (below_set (by rw [HGG.out];exact Nat.le_refl _) (below_set (by rw [HGG.out];exact Nat.le_refl _) (below_set (by rw [HGG.out];exact Nat.le_refl _) (below_set (by rw [HGG.out];exact Nat.le_refl _) (below_set (by rw [HGG.out];exact Nat.le_refl _) (below_set (by rw [HGG.out];exact Nat.le_refl _) (below_set (by rw [HGG.out];exact Nat.le_refl _) HBW.out 0 _) 1 _) 2 _) 3 _) 4 _) 5 _) 6 _) 7 _) 8 _),.inr ⟨a,k,A5,c5,rfl,by omega,by rw [HKK.out];exact hkK,by rw [HFN2.out];rfl,?_⟩⟩
         have hgw:g<wr.heap.size:=Nat.lt_of_lt_of_le (lt_of_block HG.out) HBR.out.size
         have hww:w.heap.size≤wr.heap.size:=by rw [HGG.out];exact Nat.le_of_lt hgw
         exact nine_own (own_base HO7.out hww) (fun q hq e=>by have:=(HO7.out.lt q (fp_own.1 hq)).1;omega) _ _ _ _ _ _ _ _ _
        ·have hkK:K≤(k:Int) - 1:=by
          have:¬ (k:Int)≤K:=fun h=>hle (HIF.out.2 h)
          omega
         go_wp2_with fail
         go_roundw
         case rel=>exact ⟨(k:Int) - 1,hkK,by omega,by simp,HBX⟩
         case measure=>simp [intOf];omega
       refine AllReadyH.cons rfl (fun K hK=>?_) ?_
       ·skip
        go_simp
        refine hK.out _ _ ?_ (fun hHeld=>?_)
        ·exact HS.out _ ((((Below.refl wr.heap.size wr).drew).alloc (Nat.le_refl _) _).alloc (by simp) _)
        clear hK K
        go_simp
        refine wpAnyH_ready (rs:=[37]) (by kernel_rfl) (by simp) ?_
        refine AllReadyH.cons rfl (fun K hK=>?_) AllReadyH.nil
        have HO0:Hid (((wr.drew.alloc (.cells #[] 5)).alloc (.cells #[.int .i64 0,.int .i64 0,.int .i64 0,.int .i64 0,.int .i64 0,.int .i64 0,.bool false,.slice none 0 0,.slice none 0 0] 54)).ownsRow wr.heap.size 5 1 (.slice (some ⟨wr.heap.size,0,none⟩) 0 0) 0 []):=(own_new wr.drew #[] 5 1 0 _ _ rfl rfl (by unfold maxLen;omega) (by simp)).alloc _
        have HD0:Hid (Below wr.heap.size wr ((wr.drew.alloc (.cells #[] 5)).alloc (.cells #[.int .i64 0,.int .i64 0,.int .i64 0,.int .i64 0,.int .i64 0,.int .i64 0,.bool false,.slice none 0 0,.slice none 0 0] 54))):=((((Below.refl wr.heap.size wr).drew).alloc (Nat.le_refl _) _).alloc (by simp) _)
        refine step_own rfl (.tmp 44) (.tmp 53) 30 rfl wr.heap.size 5 i0 (.int .u8 0) 1 1 Try.underlying30 HI.out.1 HI.out.2.1 HI.out.2.2.1 HI.out.2.2.2 rfl (by decide) (.slice (some ⟨wr.heap.size,0,none⟩) 0 0) 0 [] (by simp [Act.eval,Act.put]) HO0.out wr.heap.size xA (en - a) (cv - a) (bv ((s.bs.drop a).take k)) (by simp [Act.eval,Act.put]) (HRX.out _ HD0.out) (ones_bv _) (by unfold maxLen;omega) (by omega) HD0.out.size ?_
        intro v5 w5 ho5 hg5
        have HB5:Hid (Below wr.heap.size wr w5):=HD0.out.grown hg5 HD0.out.size (fun g hg=>(HO0.out.lt g hg).1)
        have HGX5:Hid (w5.heap[wr.heap.size+1]?=some (.cells #[.int .i64 0,.int .i64 0,.int .i64 0,.int .i64 0,.int .i64 0,.int .i64 0,.bool false,.slice none 0 0,.slice none 0 0] 54 (0,0))):=(hg5.block _ (lt_of_block (by have h:=heap_alloc_new (wr.drew.alloc (.cells #[] 5)) (.cells #[.int .i64 0,.int .i64 0,.int .i64 0,.int .i64 0,.int .i64 0,.int .i64 0,.bool false,.slice none 0 0,.slice none 0 0] 54);rw [show (wr.drew.alloc (.cells #[] 5)).heap.size=wr.heap.size+1 by simp] at h;exact h)) (by simp [Value.ownBlock])).trans (by have h:=heap_alloc_new (wr.drew.alloc (.cells #[] 5)) (.cells #[.int .i64 0,.int .i64 0,.int .i64 0,.int .i64 0,.int .i64 0,.int .i64 0,.bool false,.slice none 0 0,.slice none 0 0] 54);rw [show (wr.drew.alloc (.cells #[] 5)).heap.size=wr.heap.size+1 by simp] at h;exact h)
        rw [show 0+(en - a)=k by have:=HEN.out;omega,List.nil_append] at ho5
        obtain ⟨A5,c5,e5,_⟩:=own_form ho5
        subst e5
        have HO5:=Lib.hid ho5
        clear ho5 hg5
        refine hK.out _ _ ?_ (fun hHeld=>?_)
        ·exact HS.out _ HB5.out
        clear hK K
        go_simp
        refine wpAnyH_take (i:=38) (v:=?_) rfl (by kernel_rfl) (by kernel_rfl) (by kernel_rfl) (fun _ _ _ h=>h) (Or.inl ⟨by rfl,?_⟩) (by assumption) ?_
        rotate_left
        ·intro w hSw;(try dsimp only at hSw);go_simp;try with_reducible rfl
        go_simp
        refine wpAnyH_ready (rs:=[40]) (by kernel_rfl) (by simp) ?_
        refine AllReadyH.cons rfl (fun K hK=>?_) AllReadyH.nil
        have q0:=cell_slot (o:=0) HGX5.out rfl
        have f0:=free_slot (o:=0) HGX5.out
        have q1:=cell_slot (o:=1) HGX5.out rfl
        have f1:=free_slot (o:=1) HGX5.out
        have q2:=cell_slot (o:=2) HGX5.out rfl
        have f2:=free_slot (o:=2) HGX5.out
        have q3:=cell_slot (o:=3) HGX5.out rfl
        have f3:=free_slot (o:=3) HGX5.out
        have q4:=cell_slot (o:=4) HGX5.out rfl
        have f4:=free_slot (o:=4) HGX5.out
        have q5:=cell_slot (o:=5) HGX5.out rfl
        have f5:=free_slot (o:=5) HGX5.out
        have q6:=cell_slot (o:=6) HGX5.out rfl
        have f6:=free_slot (o:=6) HGX5.out
        have q7:=cell_slot (o:=7) HGX5.out rfl
        have f7:=free_slot (o:=7) HGX5.out
        have q8:=cell_slot (o:=8) HGX5.out rfl
        have f8:=free_slot (o:=8) HGX5.out
        go_simp
        refine hK.out _ _ ?_ (fun hHeld=>?_)
        ·exact HS.out _ (below_set (by simp) (below_set (by simp) (below_set (by simp) (below_set (by simp) (below_set (by simp) (below_set (by simp) (below_set (by simp) (below_set (by simp) (below_set (by simp) HB5.out _ _) _ _) _ _) _ _) _ _) _ _) _ _) _ _) _ _)
        clear hK K
        go_simp
        refine wpAnyH_done (by kernel_rfl) ?_ _
        have hgo:∀ q ∈ fp (.slice A5 k c5),q≠wr.heap.size+1:=fun q hq e=>own_other HO5.out HGX5.out (by decide) (e ▸ fp_own.1 hq)
        have HX5:=nine_heap HGX5.out (.int .i64 3) (.int .i64 s.id) (.int .i64 (a:Int)) (.int .i64 0) (.int .i64 0) (.int .i64 0) (.bool b) (.slice A5 k c5) (.slice none 0 0)
        have HO5':=nine_own HO5.out hgo (.int .i64 3) (.int .i64 s.id) (.int .i64 (a:Int)) (.int .i64 0) (.int .i64 0) (.int .i64 0) (.bool b) (.slice A5 k c5) (.slice none 0 0)
        obtain ⟨w6,hw6⟩:∃ x,(((((((((w5.setCell ⟨wr.heap.size+1,0,none⟩ (.int .i64 3)).setCell ⟨wr.heap.size+1,1,none⟩ (.int .i64 s.id)).setCell ⟨wr.heap.size+1,2,none⟩ (.int .i64 (a:Int))).setCell ⟨wr.heap.size+1,3,none⟩ (.int .i64 0)).setCell ⟨wr.heap.size+1,4,none⟩ (.int .i64 0)).setCell ⟨wr.heap.size+1,5,none⟩ (.int .i64 0)).setCell ⟨wr.heap.size+1,6,none⟩ (.bool b)).setCell ⟨wr.heap.size+1,7,none⟩ (.slice A5 k c5)).setCell ⟨wr.heap.size+1,8,none⟩ (.slice none 0 0))=x:=⟨_,rfl⟩
        have HB6:Hid (Below wr.heap.size wr w6):=by rw [← hw6];exact (below_set (by simp) (below_set (by simp) (below_set (by simp) (below_set (by simp) (below_set (by simp) (below_set (by simp) (below_set (by simp) (below_set (by simp) (below_set (by simp) HB5.out _ _) _ _) _ _) _ _) _ _) _ _) _ _) _ _) _ _)
        obtain ⟨gx,hgx⟩:∃ x,wr.heap.size+1=x:=⟨_,rfl⟩
        have HX6:Hid (FrB w6 gx 3 s.id (a:Int) 0 0 0 b A5 k c5 none 0 0):=by rw [← hw6,← hgx];exact HX5
        have HO6:Hid (w6.ownsRow wr.heap.size 5 1 (.slice A5 k c5) k (bv ((s.bs.drop a).take k))):=by rw [← hw6];exact HO5'
        rw [hw6,hgx]
        clear HX5 HO5' hgo HGX5 q0 q1 q2 q3 q4 q5 q6 q7 q8 f0 f1 f2 f3 f4 f5 f6 f7 f8
        clear hw6 hgx HB5 HO5 HS HRX
        obtain ⟨y0,y1,y2,y3,y4,y5,y6,y7,y8⟩:=HX6.out.cells
        go_wp2_with fail
        refine (HSZ.out b _ A5 k c5 w6 (by have:=Rd.of_own HO6.out;rw [Nat.mul_one] at this;exact this) hk120).mono ?_
        rintro e w7 ⟨rfl,hb7⟩
        have HB7:Hid (Below wr.heap.size wr w7):=HB6.out.trans (hb7.mono HB6.out.size)
        have HX7:Hid (FrB w7 gx 3 s.id (a:Int) 0 0 0 b A5 k c5 none 0 0):=(hb7.block gx (lt_of_block HX6.out)).trans HX6.out
        have HO7:Hid (w7.ownsRow wr.heap.size 5 1 (.slice A5 k c5) k (bv ((s.bs.drop a).take k))):=own_below HO6.out hb7
        clear y0 y1 y2 y3 y4 y5 y6 y7 y8 hb7 HX6 HO6
        obtain ⟨y0,y1,y2,y3,y4,y5,y6,y7,y8⟩:=HX7.out.cells
        obtain ⟨sz,hsz⟩:∃ x,2+(wid s.id:Int)+(wid (a:Int):Int)+(wid (k:Int):Int)+(k:Int)=x:=⟨_,rfl⟩
        have HIF:Hid (sz≤room↔(k:Int)≤K):=by
         have:=HFI.out (k:Int) (by omega) (by have:=HM0.out;omega) hkI
         rw [hsz] at this
         exact this
        rw [hsz]
        clear hsz
        have HBX:Hid (Below w1.heap.size w1 w7):=HBR.out.trans (HB7.out.mono HBR.out.size)
        by_cases hle:sz≤room
        ·have hkK:(k:Int)=K:=by have:=HIF.out.1 hle;omega
         have HG7:Hid (w7.heap[g]?=_):=(HBX.out.block g (lt_of_block HG.out)).trans HG.out
         have HBW:Hid (Below w.heap.size w w7):=HB1.out.trans (HBX.out.mono HB1.out.size)
         have HFN2:Hid (finS s (a:Int) (k:Int)=b):=HFN.out.trans rfl
         have z0:=cell_slot (o:=0) HG7.out rfl
         have f0:=free_slot (o:=0) HG7.out
         have z1:=cell_slot (o:=1) HG7.out rfl
         have f1:=free_slot (o:=1) HG7.out
         have z2:=cell_slot (o:=2) HG7.out rfl
         have f2:=free_slot (o:=2) HG7.out
         have z3:=cell_slot (o:=3) HG7.out rfl
         have f3:=free_slot (o:=3) HG7.out
         have z4:=cell_slot (o:=4) HG7.out rfl
         have f4:=free_slot (o:=4) HG7.out
         have z5:=cell_slot (o:=5) HG7.out rfl
         have f5:=free_slot (o:=5) HG7.out
         have z6:=cell_slot (o:=6) HG7.out rfl
         have f6:=free_slot (o:=6) HG7.out
         have z7:=cell_slot (o:=7) HG7.out rfl
         have f7:=free_slot (o:=7) HG7.out
         have z8:=cell_slot (o:=8) HG7.out rfl
         have f8:=free_slot (o:=8) HG7.out
         go_wp2_with fail
         refine bodyPost_ret (results_row_tmp rfl _ _ g 54 _ (0,0) _ rfl (set_slot (set_slot (set_slot (set_slot (set_slot (set_slot (set_slot (set_slot (set_slot HG7.out 0 _) 1 _) 2 _) 3 _) 4 _) 5 _) 6 _) 7 _) 8 _) Try.underlying54 rfl (by kernel_rfl)) rfl ?_
         refine HQ.out _ _ ?_
         rw [HP.out]
         refine ⟨(below_set (by rw [HGG.out];exact Nat.le_refl _) (below_set (by rw [HGG.out];exact Nat.le_refl _) (below_set (by rw [HGG.out];exact Nat.le_refl _) (below_set (by rw [HGG.out];exact Nat.le_refl _) (below_set (by rw [HGG.out];exact Nat.le_refl _) (below_set (by rw [HGG.out];exact Nat.le_refl _) (below_set (by rw [HGG.out];exact Nat.le_refl _) (below_set (by rw [HGG.out];exact Nat.le_refl _) (below_set (by rw [HGG.out];exact Nat.le_refl _) HBW.out 0 _) 1 _) 2 _) 3 _) 4 _) 5 _) 6 _) 7 _) 8 _),.inr ⟨a,k,A5,c5,rfl,by omega,by rw [HKK.out];exact hkK,by rw [HFN2.out];rfl,?_⟩⟩
         have hgw:g<wr.heap.size:=Nat.lt_of_lt_of_le (lt_of_block HG.out) HBR.out.size
         have hww:w.heap.size≤wr.heap.size:=by rw [HGG.out];exact Nat.le_of_lt hgw
         exact nine_own (own_base HO7.out hww) (fun q hq e=>by have:=(HO7.out.lt q (fp_own.1 hq)).1;omega) _ _ _ _ _ _ _ _ _
        ·have hkK:K≤(k:Int) - 1:=by
          have:¬ (k:Int)≤K:=fun h=>hle (HIF.out.2 h)
          omega
         go_wp2_with fail
         go_roundw
         case rel=>exact ⟨(k:Int) - 1,hkK,by omega,by simp,HBX⟩
         case measure=>simp [intOf];omega
       exact AllReadyH.nil
      refine AllReadyH.cons rfl (fun K hK=>?_) ?_
      ·skip
       go_simp
       refine hK.out _ _ ?_ (fun hHeld=>?_)
       ·exact HS.out _ (((Below.refl wr.heap.size wr).drew).alloc (Nat.le_refl _) _)
       clear hK K
       go_simp
       refine wpAnyH_ready (rs:=[27]) (by kernel_rfl) (by simp) ?_
       refine AllReadyH.cons rfl (fun K hK=>?_) AllReadyH.nil
       go_simp
       refine hK.out _ _ ?_ (fun hHeld=>?_)
       ·exact HS.out _ ((((Below.refl wr.heap.size wr).drew).alloc (Nat.le_refl _) _).alloc (by simp) _)
       clear hK K
       go_simp
       refine wpAnyH_ready (rs:=[37]) (by kernel_rfl) (by simp) ?_
       refine AllReadyH.cons rfl (fun K hK=>?_) AllReadyH.nil
       have HO0:Hid (((wr.drew.alloc (.cells #[.int .i64 0,.int .i64 0,.int .i64 0,.int .i64 0,.int .i64 0,.int .i64 0,.bool false,.slice none 0 0,.slice none 0 0] 54)).alloc (.cells #[] 5)).ownsRow wr.heap.size 5 1 (.slice (some ⟨wr.heap.size+1,0,none⟩) 0 0) 0 []):=own_new (wr.drew.alloc (.cells #[.int .i64 0,.int .i64 0,.int .i64 0,.int .i64 0,.int .i64 0,.int .i64 0,.bool false,.slice none 0 0,.slice none 0 0] 54)) #[] 5 1 0 _ _ (by simp) rfl (by unfold maxLen;omega) (by simp)
       have HD0:Hid (Below wr.heap.size wr ((wr.drew.alloc (.cells #[.int .i64 0,.int .i64 0,.int .i64 0,.int .i64 0,.int .i64 0,.int .i64 0,.bool false,.slice none 0 0,.slice none 0 0] 54)).alloc (.cells #[] 5))):=((((Below.refl wr.heap.size wr).drew).alloc (Nat.le_refl _) _).alloc (by simp) _)
       refine step_own rfl (.tmp 44) (.tmp 53) 30 rfl wr.heap.size 5 i0 (.int .u8 0) 1 1 Try.underlying30 HI.out.1 HI.out.2.1 HI.out.2.2.1 HI.out.2.2.2 rfl (by decide) (.slice (some ⟨wr.heap.size+1,0,none⟩) 0 0) 0 [] (by simp [Act.eval,Act.put]) HO0.out wr.heap.size xA (en - a) (cv - a) (bv ((s.bs.drop a).take k)) (by simp [Act.eval,Act.put]) (HRX.out _ HD0.out) (ones_bv _) (by unfold maxLen;omega) (by omega) HD0.out.size ?_
       intro v5 w5 ho5 hg5
       have HB5:Hid (Below wr.heap.size wr w5):=HD0.out.grown hg5 HD0.out.size (fun g hg=>(HO0.out.lt g hg).1)
       have HGX5:Hid (w5.heap[wr.heap.size]?=some (.cells #[.int .i64 0,.int .i64 0,.int .i64 0,.int .i64 0,.int .i64 0,.int .i64 0,.bool false,.slice none 0 0,.slice none 0 0] 54 (0,0))):=(hg5.block _ (lt_of_block (((Below.refl (wr.heap.size+1) (wr.drew.alloc (.cells #[.int .i64 0,.int .i64 0,.int .i64 0,.int .i64 0,.int .i64 0,.int .i64 0,.bool false,.slice none 0 0,.slice none 0 0] 54))).alloc (by simp) (.cells #[] 5)).block wr.heap.size (by omega) |>.trans (heap_alloc_new wr.drew _))) (by simp [Value.ownBlock])).trans (((Below.refl (wr.heap.size+1) (wr.drew.alloc (.cells #[.int .i64 0,.int .i64 0,.int .i64 0,.int .i64 0,.int .i64 0,.int .i64 0,.bool false,.slice none 0 0,.slice none 0 0] 54))).alloc (by simp) (.cells #[] 5)).block wr.heap.size (by omega) |>.trans (heap_alloc_new wr.drew _))
       rw [show 0+(en - a)=k by have:=HEN.out;omega,List.nil_append] at ho5
       obtain ⟨A5,c5,e5,_⟩:=own_form ho5
       subst e5
       have HO5:=Lib.hid ho5
       clear ho5 hg5
       refine hK.out _ _ ?_ (fun hHeld=>?_)
       ·exact HS.out _ HB5.out
       clear hK K
       go_simp
       refine wpAnyH_take (i:=38) (v:=?_) rfl (by kernel_rfl) (by kernel_rfl) (by kernel_rfl) (fun _ _ _ h=>h) (Or.inl ⟨by rfl,?_⟩) (by assumption) ?_
       rotate_left
       ·intro w hSw;(try dsimp only at hSw);go_simp;try with_reducible rfl
       go_simp
       refine wpAnyH_ready (rs:=[40]) (by kernel_rfl) (by simp) ?_
       refine AllReadyH.cons rfl (fun K hK=>?_) AllReadyH.nil
       have q0:=cell_slot (o:=0) HGX5.out rfl
       have f0:=free_slot (o:=0) HGX5.out
       have q1:=cell_slot (o:=1) HGX5.out rfl
       have f1:=free_slot (o:=1) HGX5.out
       have q2:=cell_slot (o:=2) HGX5.out rfl
       have f2:=free_slot (o:=2) HGX5.out
       have q3:=cell_slot (o:=3) HGX5.out rfl
       have f3:=free_slot (o:=3) HGX5.out
       have q4:=cell_slot (o:=4) HGX5.out rfl
       have f4:=free_slot (o:=4) HGX5.out
       have q5:=cell_slot (o:=5) HGX5.out rfl
       have f5:=free_slot (o:=5) HGX5.out
       have q6:=cell_slot (o:=6) HGX5.out rfl
       have f6:=free_slot (o:=6) HGX5.out
       have q7:=cell_slot (o:=7) HGX5.out rfl
       have f7:=free_slot (o:=7) HGX5.out
       have q8:=cell_slot (o:=8) HGX5.out rfl
       have f8:=free_slot (o:=8) HGX5.out
       go_simp
       refine hK.out _ _ ?_ (fun hHeld=>?_)
       ·exact HS.out _ (below_set (by simp) (below_set (by simp) (below_set (by simp) (below_set (by simp) (below_set (by simp) (below_set (by simp) (below_set (by simp) (below_set (by simp) (below_set (by simp) HB5.out _ _) _ _) _ _) _ _) _ _) _ _) _ _) _ _) _ _)
       clear hK K
       go_simp
       refine wpAnyH_done (by kernel_rfl) ?_ _
       have hgo:∀ q ∈ fp (.slice A5 k c5),q≠wr.heap.size:=fun q hq e=>own_other HO5.out HGX5.out (by decide) (e ▸ fp_own.1 hq)
       have HX5:=nine_heap HGX5.out (.int .i64 3) (.int .i64 s.id) (.int .i64 (a:Int)) (.int .i64 0) (.int .i64 0) (.int .i64 0) (.bool b) (.slice A5 k c5) (.slice none 0 0)
       have HO5':=nine_own HO5.out hgo (.int .i64 3) (.int .i64 s.id) (.int .i64 (a:Int)) (.int .i64 0) (.int .i64 0) (.int .i64 0) (.bool b) (.slice A5 k c5) (.slice none 0 0)
       obtain ⟨w6,hw6⟩:∃ x,(((((((((w5.setCell ⟨wr.heap.size,0,none⟩ (.int .i64 3)).setCell ⟨wr.heap.size,1,none⟩ (.int .i64 s.id)).setCell ⟨wr.heap.size,2,none⟩ (.int .i64 (a:Int))).setCell ⟨wr.heap.size,3,none⟩ (.int .i64 0)).setCell ⟨wr.heap.size,4,none⟩ (.int .i64 0)).setCell ⟨wr.heap.size,5,none⟩ (.int .i64 0)).setCell ⟨wr.heap.size,6,none⟩ (.bool b)).setCell ⟨wr.heap.size,7,none⟩ (.slice A5 k c5)).setCell ⟨wr.heap.size,8,none⟩ (.slice none 0 0))=x:=⟨_,rfl⟩
       have HB6:Hid (Below wr.heap.size wr w6):=by rw [← hw6];exact (below_set (by simp) (below_set (by simp) (below_set (by simp) (below_set (by simp) (below_set (by simp) (below_set (by simp) (below_set (by simp) (below_set (by simp) (below_set (by simp) HB5.out _ _) _ _) _ _) _ _) _ _) _ _) _ _) _ _) _ _)
       obtain ⟨gx,hgx⟩:∃ x,wr.heap.size=x:=⟨_,rfl⟩
       have HX6:Hid (FrB w6 gx 3 s.id (a:Int) 0 0 0 b A5 k c5 none 0 0):=by rw [← hw6,← hgx];exact HX5
       have HO6:Hid (w6.ownsRow wr.heap.size 5 1 (.slice A5 k c5) k (bv ((s.bs.drop a).take k))):=by rw [← hw6];exact HO5'
       rw [hw6,hgx]
       clear HX5 HO5' hgo HGX5 q0 q1 q2 q3 q4 q5 q6 q7 q8 f0 f1 f2 f3 f4 f5 f6 f7 f8
       clear hw6 hgx HB5 HO5 HS HRX
       obtain ⟨y0,y1,y2,y3,y4,y5,y6,y7,y8⟩:=HX6.out.cells
       go_wp2_with fail
       refine (HSZ.out b _ A5 k c5 w6 (by have:=Rd.of_own HO6.out;rw [Nat.mul_one] at this;exact this) hk120).mono ?_
       rintro e w7 ⟨rfl,hb7⟩
       have HB7:Hid (Below wr.heap.size wr w7):=HB6.out.trans (hb7.mono HB6.out.size)
       have HX7:Hid (FrB w7 gx 3 s.id (a:Int) 0 0 0 b A5 k c5 none 0 0):=(hb7.block gx (lt_of_block HX6.out)).trans HX6.out
       have HO7:Hid (w7.ownsRow wr.heap.size 5 1 (.slice A5 k c5) k (bv ((s.bs.drop a).take k))):=own_below HO6.out hb7
       clear y0 y1 y2 y3 y4 y5 y6 y7 y8 hb7 HX6 HO6
       obtain ⟨y0,y1,y2,y3,y4,y5,y6,y7,y8⟩:=HX7.out.cells
       obtain ⟨sz,hsz⟩:∃ x,2+(wid s.id:Int)+(wid (a:Int):Int)+(wid (k:Int):Int)+(k:Int)=x:=⟨_,rfl⟩
       have HIF:Hid (sz≤room↔(k:Int)≤K):=by
        have:=HFI.out (k:Int) (by omega) (by have:=HM0.out;omega) hkI
        rw [hsz] at this
        exact this
       rw [hsz]
       clear hsz
       have HBX:Hid (Below w1.heap.size w1 w7):=HBR.out.trans (HB7.out.mono HBR.out.size)
       by_cases hle:sz≤room
       ·have hkK:(k:Int)=K:=by have:=HIF.out.1 hle;omega
        have HG7:Hid (w7.heap[g]?=_):=(HBX.out.block g (lt_of_block HG.out)).trans HG.out
        have HBW:Hid (Below w.heap.size w w7):=HB1.out.trans (HBX.out.mono HB1.out.size)
        have HFN2:Hid (finS s (a:Int) (k:Int)=b):=HFN.out.trans rfl
        have z0:=cell_slot (o:=0) HG7.out rfl
        have f0:=free_slot (o:=0) HG7.out
        have z1:=cell_slot (o:=1) HG7.out rfl
        have f1:=free_slot (o:=1) HG7.out
        have z2:=cell_slot (o:=2) HG7.out rfl
        have f2:=free_slot (o:=2) HG7.out
        have z3:=cell_slot (o:=3) HG7.out rfl
        have f3:=free_slot (o:=3) HG7.out
        have z4:=cell_slot (o:=4) HG7.out rfl
        have f4:=free_slot (o:=4) HG7.out
        have z5:=cell_slot (o:=5) HG7.out rfl
        have f5:=free_slot (o:=5) HG7.out
        have z6:=cell_slot (o:=6) HG7.out rfl
        have f6:=free_slot (o:=6) HG7.out
        have z7:=cell_slot (o:=7) HG7.out rfl
        have f7:=free_slot (o:=7) HG7.out
        have z8:=cell_slot (o:=8) HG7.out rfl
        have f8:=free_slot (o:=8) HG7.out
        go_wp2_with fail
        refine bodyPost_ret (results_row_tmp rfl _ _ g 54 _ (0,0) _ rfl (set_slot (set_slot (set_slot (set_slot (set_slot (set_slot (set_slot (set_slot (set_slot HG7.out 0 _) 1 _) 2 _) 3 _) 4 _) 5 _) 6 _) 7 _) 8 _) Try.underlying54 rfl (by kernel_rfl)) rfl ?_
        refine HQ.out _ _ ?_
        rw [HP.out]
        refine ⟨(below_set (by rw [HGG.out];exact Nat.le_refl _) (below_set (by rw [HGG.out];exact Nat.le_refl _) (below_set (by rw [HGG.out];exact Nat.le_refl _) (below_set (by rw [HGG.out];exact Nat.le_refl _) (below_set (by rw [HGG.out];exact Nat.le_refl _) (below_set (by rw [HGG.out];exact Nat.le_refl _) (below_set (by rw [HGG.out];exact Nat.le_refl _) (below_set (by rw [HGG.out];exact Nat.le_refl _) (below_set (by rw [HGG.out];exact Nat.le_refl _) HBW.out 0 _) 1 _) 2 _) 3 _) 4 _) 5 _) 6 _) 7 _) 8 _),.inr ⟨a,k,A5,c5,rfl,by omega,by rw [HKK.out];exact hkK,by rw [HFN2.out];rfl,?_⟩⟩
        have hgw:g<wr.heap.size:=Nat.lt_of_lt_of_le (lt_of_block HG.out) HBR.out.size
        have hww:w.heap.size≤wr.heap.size:=by rw [HGG.out];exact Nat.le_of_lt hgw
        exact nine_own (own_base HO7.out hww) (fun q hq e=>by have:=(HO7.out.lt q (fp_own.1 hq)).1;omega) _ _ _ _ _ _ _ _ _
       ·have hkK:K≤(k:Int) - 1:=by
         have:¬ (k:Int)≤K:=fun h=>hle (HIF.out.2 h)
         omega
        go_wp2_with fail
        go_roundw
        case rel=>exact ⟨(k:Int) - 1,hkK,by omega,by simp,HBX⟩
        case measure=>simp [intOf];omega
      exact AllReadyH.nil
     ·skip
      have HS:=HSB
      clear HSB
      refine wp_region_held_drew (S:=(fun W:World=>Below wr.heap.size wr W∧W.cell? ⟨p,0,none⟩=some (.int .i64 s.id)∧W.cell? ⟨p,1,none⟩=some (.slice Av nb cv)∧W.cell? ⟨p,4,none⟩=some (.bool true)∧W.cell? ⟨p,5,none⟩=some (.bool true))) (by kernel_rfl) ?_ (fun hHeld=>?_)
      ·exact HS.out _ ((Below.refl wr.heap.size wr).drew)
      refine wpAnyH_take (i:=0) (v:=?_) rfl (by kernel_rfl) (by kernel_rfl) (by kernel_rfl) (fun _ _ _ h=>h) (Or.inl ⟨by rfl,?_⟩) (by assumption) ?_
      rotate_left
      ·intro w hSw;(try dsimp only at hSw);go_simp;try with_reducible rfl
      go_simp
      refine wpAnyH_take (i:=1) (v:=?_) rfl (by kernel_rfl) (by kernel_rfl) (by kernel_rfl) (fun _ _ _ h=>h) (Or.inl ⟨by rfl,?_⟩) (by assumption) ?_
      rotate_left
      ·intro w hSw;(try dsimp only at hSw);go_simp;try with_reducible rfl
      go_simp
      refine wpAnyH_take (i:=2) (v:=?_) rfl (by kernel_rfl) (by kernel_rfl) (by kernel_rfl) (fun _ _ _ h=>h) (Or.inl ⟨by rfl,?_⟩) (by assumption) ?_
      rotate_left
      ·intro w hSw;(try dsimp only at hSw);go_simp;try with_reducible rfl
      go_simp
      refine wpAnyH_take (i:=3) (v:=?_) rfl (by kernel_rfl) (by kernel_rfl) (by kernel_rfl) (fun _ _ _ h=>h) (Or.inl ⟨by rfl,?_⟩) (by assumption) ?_
      rotate_left
      ·intro w hSw;(try dsimp only at hSw);go_simp;try with_reducible rfl
      go_simp
      refine wpAnyH_take (i:=4) (v:=?_) rfl (by kernel_rfl) (by kernel_rfl) (by kernel_rfl) (fun _ _ _ h=>h) (Or.inl ⟨by rfl,?_⟩) (by assumption) ?_
      rotate_left
      ·intro w hSw;(try dsimp only at hSw);go_simp;try with_reducible rfl
      go_simp
      refine wpAnyH_take (i:=5) (v:=?_) rfl (by kernel_rfl) (by kernel_rfl) (by kernel_rfl) (fun _ _ _ h=>h) (Or.inl ⟨by rfl,?_⟩) (by assumption) ?_
      rotate_left
      ·intro w hSw;(try dsimp only at hSw);go_simp;try with_reducible rfl
      go_simp
      refine wpAnyH_take (i:=6) (v:=?_) rfl (by kernel_rfl) (by kernel_rfl) (by kernel_rfl) (fun _ _ _ h=>h) (Or.inl ⟨by rfl,?_⟩) (by assumption) ?_
      rotate_left
      ·intro w hSw;(try dsimp only at hSw);go_simp;try with_reducible rfl
      go_simp
      refine wpAnyH_take (i:=7) (v:=?_) rfl (by kernel_rfl) (by kernel_rfl) (by kernel_rfl) (fun _ _ _ h=>h) (Or.inl ⟨by rfl,?_⟩) (by assumption) ?_
      rotate_left
      ·intro w hSw;(try dsimp only at hSw);go_simp;try with_reducible rfl
      go_simp
      refine wpAnyH_take (i:=8) (v:=?_) rfl (by kernel_rfl) (by kernel_rfl) (by kernel_rfl) (fun _ _ _ h=>h) (Or.inl ⟨by rfl,?_⟩) (by assumption) ?_
      rotate_left
      ·intro w hSw;(try dsimp only at hSw);go_simp;try with_reducible rfl
      go_simp
      refine wpAnyH_take (i:=9) (v:=?_) rfl (by kernel_rfl) (by kernel_rfl) (by kernel_rfl) (fun _ _ _ h=>h) (Or.inl ⟨by rfl,?_⟩) (by assumption) ?_
      rotate_left
      ·intro w hSw;(try dsimp only at hSw);go_simp;try with_reducible rfl
      go_simp
      refine wpAnyH_take (i:=10) (v:=?_) rfl (by kernel_rfl) (by kernel_rfl) (by kernel_rfl) (fun _ _ _ h=>h) (Or.inl ⟨by rfl,?_⟩) (by assumption) ?_
      rotate_left
      ·intro w hSw;(try dsimp only at hSw);go_simp;try with_reducible rfl
      go_simp
      refine wpAnyH_take (i:=11) (v:=?_) rfl (by kernel_rfl) (by kernel_rfl) (by kernel_rfl) (fun _ _ _ h=>h) (Or.inl ⟨by rfl,?_⟩) (by assumption) ?_
      rotate_left
      ·intro w hSw;(try dsimp only at hSw);go_simp;try with_reducible rfl
      go_simp
      refine wpAnyH_take (i:=12) (v:=?_) rfl (by kernel_rfl) (by kernel_rfl) (by kernel_rfl) (fun _ _ _ h=>h) (Or.inl ⟨by rfl,?_⟩) (by assumption) ?_
      rotate_left
      ·intro w hSw;(try dsimp only at hSw);go_simp;try with_reducible rfl
      go_simp
      refine wpAnyH_take (i:=13) (v:=?_) rfl (by kernel_rfl) (by kernel_rfl) (by kernel_rfl) (fun _ _ _ h=>h) (Or.inl ⟨by rfl,?_⟩) (by assumption) ?_
      rotate_left
      ·intro w hSw;(try dsimp only at hSw);go_simp;try with_reducible rfl
      go_simp
      refine wpAnyH_take (i:=14) (v:=?_) rfl (by kernel_rfl) (by kernel_rfl) (by kernel_rfl) (fun _ _ _ h=>h) (Or.inl ⟨by rfl,?_⟩) (by assumption) ?_
      rotate_left
      ·intro w hSw;(try dsimp only at hSw);go_simp;try with_reducible rfl
      go_simp
      refine wpAnyH_take (i:=15) (v:=?_) rfl (by kernel_rfl) (by kernel_rfl) (by kernel_rfl) (fun _ _ _ h=>h) (Or.inl ⟨by rfl,?_⟩) (by assumption) ?_
      rotate_left
      ·intro w hSw;(try dsimp only at hSw);go_simp;try with_reducible rfl
      go_simp
      refine wpAnyH_take (i:=16) (v:=?_) rfl (by kernel_rfl) (by kernel_rfl) (by kernel_rfl) (fun _ _ _ h=>h) (Or.inl ⟨by rfl,?_⟩) (by assumption) ?_
      rotate_left
      ·intro w hSw;(try dsimp only at hSw);go_simp;try with_reducible rfl
      go_simp
      refine wpAnyH_take (i:=17) (v:=undef) rfl (by kernel_rfl) (by kernel_rfl) (by kernel_rfl) (fun _ _ _ h=>h) (Or.inr ⟨by rfl,rfl⟩) (by assumption) ?_
      go_simp
      refine wpAnyH_take (i:=18) (v:=undef) rfl (by kernel_rfl) (by kernel_rfl) (by kernel_rfl) (fun _ _ _ h=>h) (Or.inr ⟨by rfl,rfl⟩) (by assumption) ?_
      go_simp
      refine wpAnyH_take (i:=19) (v:=undef) rfl (by kernel_rfl) (by kernel_rfl) (by kernel_rfl) (fun _ _ _ h=>h) (Or.inr ⟨by rfl,rfl⟩) (by assumption) ?_
      go_simp
      refine wpAnyH_take (i:=20) (v:=undef) rfl (by kernel_rfl) (by kernel_rfl) (by kernel_rfl) (fun _ _ _ h=>h) (Or.inr ⟨by rfl,rfl⟩) (by assumption) ?_
      go_simp
      refine wpAnyH_take (i:=21) (v:=undef) rfl (by kernel_rfl) (by kernel_rfl) (by kernel_rfl) (fun _ _ _ h=>h) (Or.inr ⟨by rfl,rfl⟩) (by assumption) ?_
      go_simp
      refine wpAnyH_take (i:=22) (v:=undef) rfl (by kernel_rfl) (by kernel_rfl) (by kernel_rfl) (fun _ _ _ h=>h) (Or.inr ⟨by rfl,rfl⟩) (by assumption) ?_
      go_simp
      refine wpAnyH_take (i:=23) (v:=undef) rfl (by kernel_rfl) (by kernel_rfl) (by kernel_rfl) (fun _ _ _ h=>h) (Or.inr ⟨by rfl,rfl⟩) (by assumption) ?_
      go_simp
      refine wpAnyH_take (i:=24) (v:=undef) rfl (by kernel_rfl) (by kernel_rfl) (by kernel_rfl) (fun _ _ _ h=>h) (Or.inr ⟨by rfl,rfl⟩) (by assumption) ?_
      go_simp
      refine wpAnyH_take (i:=25) (v:=undef) rfl (by kernel_rfl) (by kernel_rfl) (by kernel_rfl) (fun _ _ _ h=>h) (Or.inr ⟨by rfl,rfl⟩) (by assumption) ?_
      go_simp
      refine wpAnyH_take (i:=26) (v:=?_) rfl (by kernel_rfl) (by kernel_rfl) (by kernel_rfl) (fun _ _ _ h=>h) (Or.inl ⟨by rfl,?_⟩) (by assumption) ?_
      rotate_left
      ·intro w hSw;(try dsimp only at hSw);go_simp;try with_reducible rfl
      go_simp
      refine wpAnyH_take (i:=28) (v:=?_) rfl (by kernel_rfl) (by kernel_rfl) (by kernel_rfl) (fun _ _ _ h=>h) (Or.inl ⟨by rfl,?_⟩) (by assumption) ?_
      rotate_left
      ·intro w hSw;(try dsimp only at hSw);go_simp;try with_reducible rfl
      go_simp
      refine wpAnyH_take (i:=29) (v:=?_) rfl (by kernel_rfl) (by kernel_rfl) (by kernel_rfl) (fun _ _ _ h=>h) (Or.inl ⟨by rfl,?_⟩) (by assumption) ?_
      rotate_left
      ·intro w hSw;(try dsimp only at hSw);go_simp;try with_reducible rfl
      go_simp
      refine wpAnyH_take (i:=30) (v:=?_) rfl (by kernel_rfl) (by kernel_rfl) (by kernel_rfl) (fun _ _ _ h=>h) (Or.inl ⟨by rfl,?_⟩) (by assumption) ?_
      rotate_left
      ·intro w hSw;(try dsimp only at hSw);go_simp;try with_reducible rfl
      go_simp
      refine wpAnyH_take (i:=31) (v:=?_) rfl (by kernel_rfl) (by kernel_rfl) (by kernel_rfl) (fun _ _ _ h=>h) (Or.inl ⟨by rfl,?_⟩) (by assumption) ?_
      rotate_left
      ·intro w hSw;(try dsimp only at hSw);go_simp;try with_reducible rfl
      go_simp
      refine wpAnyH_take (i:=32) (v:=?_) rfl (by kernel_rfl) (by kernel_rfl) (by kernel_rfl) (fun _ _ _ h=>h) (Or.inl ⟨by rfl,?_⟩) (by assumption) ?_
      rotate_left
      ·intro w hSw;(try dsimp only at hSw);go_simp;try with_reducible rfl
      go_simp
      refine wpAnyH_take (i:=33) (v:=?_) rfl (by kernel_rfl) (by kernel_rfl) (by kernel_rfl) (fun _ _ _ h=>h) (Or.inl ⟨by rfl,?_⟩) (by assumption) ?_
      rotate_left
      ·intro w hSw;(try dsimp only at hSw);go_simp;try with_reducible rfl
      go_simp
      refine wpAnyH_take (i:=34) (v:=?_) rfl (by kernel_rfl) (by kernel_rfl) (by kernel_rfl) (fun _ _ _ h=>h) (Or.inl ⟨by rfl,?_⟩) (by assumption) ?_
      rotate_left
      ·intro w hSw;(try dsimp only at hSw);go_simp;try with_reducible rfl
      go_simp
      refine wpAnyH_take (i:=35) (v:=?_) rfl (by kernel_rfl) (by kernel_rfl) (by kernel_rfl) (fun _ _ _ h=>h) (Or.inl ⟨by rfl,?_⟩) (by assumption) ?_
      rotate_left
      ·intro w hSw;(try dsimp only at hSw);go_simp;try with_reducible rfl
      go_simp
      refine wpAnyH_take (i:=36) (v:=?_) rfl (by kernel_rfl) (by kernel_rfl) (by kernel_rfl) (fun _ _ _ h=>h) (Or.inl ⟨by rfl,?_⟩) (by assumption) ?_
      rotate_left
      ·intro w hSw;(try dsimp only at hSw);go_simp;try with_reducible rfl
      go_simp
      refine wpAnyH_ready (rs:=[27,39]) (by kernel_rfl) (by simp) ?_
      refine AllReadyH.cons rfl (fun K hK=>?_) ?_
      ·skip
       go_simp
       refine hK.out _ _ ?_ (fun hHeld=>?_)
       ·exact HS.out _ (((Below.refl wr.heap.size wr).drew).alloc (Nat.le_refl _) _)
       clear hK K
       go_simp
       refine wpAnyH_ready (rs:=[37,39]) (by kernel_rfl) (by simp) ?_
       refine AllReadyH.cons rfl (fun K hK=>?_) ?_
       ·skip
        have HO0:Hid ((wr.drew.alloc (.cells #[] 5)).ownsRow wr.heap.size 5 1 (.slice (some ⟨wr.heap.size,0,none⟩) 0 0) 0 []):=own_new wr.drew #[] 5 1 0 _ _ rfl rfl (by unfold maxLen;omega) (by simp)
        have HD0:Hid (Below wr.heap.size wr (wr.drew.alloc (.cells #[] 5))):=((Below.refl wr.heap.size wr).drew).alloc (Nat.le_refl _) _
        refine step_own rfl (.tmp 44) (.tmp 53) 30 rfl wr.heap.size 5 i0 (.int .u8 0) 1 1 Try.underlying30 HI.out.1 HI.out.2.1 HI.out.2.2.1 HI.out.2.2.2 rfl (by decide) (.slice (some ⟨wr.heap.size,0,none⟩) 0 0) 0 [] (by simp [Act.eval,Act.put]) HO0.out wr.heap.size xA (en - a) (cv - a) (bv ((s.bs.drop a).take k)) (by simp [Act.eval,Act.put]) (HRX.out _ HD0.out) (ones_bv _) (by unfold maxLen;omega) (by omega) HD0.out.size ?_
        intro v5 w5 ho5 hg5
        have HB5:Hid (Below wr.heap.size wr w5):=HD0.out.grown hg5 HD0.out.size (fun g hg=>(HO0.out.lt g hg).1)
        rw [show 0+(en - a)=k by have:=HEN.out;omega,List.nil_append] at ho5
        obtain ⟨A5,c5,e5,_⟩:=own_form ho5
        subst e5
        have HO5:=Lib.hid ho5
        clear ho5 hg5
        refine hK.out _ _ ?_ (fun hHeld=>?_)
        ·exact HS.out _ HB5.out
        clear hK K
        go_simp
        refine wpAnyH_take (i:=38) (v:=?_) rfl (by kernel_rfl) (by kernel_rfl) (by kernel_rfl) (fun _ _ _ h=>h) (Or.inl ⟨by rfl,?_⟩) (by assumption) ?_
        rotate_left
        ·intro w hSw;(try dsimp only at hSw);go_simp;try with_reducible rfl
        go_simp
        refine wpAnyH_ready (rs:=[39]) (by kernel_rfl) (by simp) ?_
        refine AllReadyH.cons rfl (fun K hK=>?_) AllReadyH.nil
        go_simp
        refine hK.out _ _ ?_ (fun hHeld=>?_)
        ·exact HS.out _ (HB5.out.alloc HB5.out.size _)
        clear hK K
        go_simp
        refine wpAnyH_ready (rs:=[40]) (by kernel_rfl) (by simp) ?_
        refine AllReadyH.cons rfl (fun K hK=>?_) AllReadyH.nil
        go_simp
        refine hK.out _ _ ?_ (fun hHeld=>?_)
        ·exact HS.out _ (HB5.out.alloc HB5.out.size _)
        clear hK K
        go_simp
        refine wpAnyH_done (by kernel_rfl) ?_ _
        obtain ⟨w6,hw6⟩:∃ x,w5.alloc (.cells #[.int .i64 3,.int .i64 s.id,.int .i64 (a:Int),.int .i64 0,.int .i64 0,.int .i64 0,.bool false,.slice A5 k c5,.slice none 0 0] 54)=x:=⟨_,rfl⟩
        obtain ⟨gx,hgx⟩:∃ x,w5.heap.size=x:=⟨_,rfl⟩
        have HB6:Hid (Below wr.heap.size wr w6):=by rw [← hw6];exact HB5.out.alloc HB5.out.size _
        have HX6:Hid (FrB w6 gx 3 s.id (a:Int) 0 0 0 false A5 k c5 none 0 0):=by rw [← hw6,← hgx];exact heap_alloc_new w5 _
        have HO6:Hid (w6.ownsRow wr.heap.size 5 1 (.slice A5 k c5) k (bv ((s.bs.drop a).take k))):=by rw [← hw6];exact HO5.out.alloc _
        rw [hw6,hgx]
        clear hw6 hgx HB5 HO5 HS HRX
        obtain ⟨y0,y1,y2,y3,y4,y5,y6,y7,y8⟩:=HX6.out.cells
        go_wp2_with fail
        refine (HSZ.out false _ A5 k c5 w6 (by have:=Rd.of_own HO6.out;rw [Nat.mul_one] at this;exact this) hk120).mono ?_
        rintro e w7 ⟨rfl,hb7⟩
        have HB7:Hid (Below wr.heap.size wr w7):=HB6.out.trans (hb7.mono HB6.out.size)
        have HX7:Hid (FrB w7 gx 3 s.id (a:Int) 0 0 0 false A5 k c5 none 0 0):=(hb7.block gx (lt_of_block HX6.out)).trans HX6.out
        have HO7:Hid (w7.ownsRow wr.heap.size 5 1 (.slice A5 k c5) k (bv ((s.bs.drop a).take k))):=own_below HO6.out hb7
        clear y0 y1 y2 y3 y4 y5 y6 y7 y8 hb7 HX6 HO6
        obtain ⟨y0,y1,y2,y3,y4,y5,y6,y7,y8⟩:=HX7.out.cells
        obtain ⟨sz,hsz⟩:∃ x,2+(wid s.id:Int)+(wid (a:Int):Int)+(wid (k:Int):Int)+(k:Int)=x:=⟨_,rfl⟩
        have HIF:Hid (sz≤room↔(k:Int)≤K):=by
         have:=HFI.out (k:Int) (by omega) (by have:=HM0.out;omega) hkI
         rw [hsz] at this
         exact this
        rw [hsz]
        clear hsz
        have HBX:Hid (Below w1.heap.size w1 w7):=HBR.out.trans (HB7.out.mono HBR.out.size)
        by_cases hle:sz≤room
        ·have hkK:(k:Int)=K:=by have:=HIF.out.1 hle;omega
         have HG7:Hid (w7.heap[g]?=_):=(HBX.out.block g (lt_of_block HG.out)).trans HG.out
         have HBW:Hid (Below w.heap.size w w7):=HB1.out.trans (HBX.out.mono HB1.out.size)
         have HFN2:Hid (finS s (a:Int) (k:Int)=false):=HFN.out.trans rfl
         have z0:=cell_slot (o:=0) HG7.out rfl
         have f0:=free_slot (o:=0) HG7.out
         have z1:=cell_slot (o:=1) HG7.out rfl
         have f1:=free_slot (o:=1) HG7.out
         have z2:=cell_slot (o:=2) HG7.out rfl
         have f2:=free_slot (o:=2) HG7.out
         have z3:=cell_slot (o:=3) HG7.out rfl
         have f3:=free_slot (o:=3) HG7.out
         have z4:=cell_slot (o:=4) HG7.out rfl
         have f4:=free_slot (o:=4) HG7.out
         have z5:=cell_slot (o:=5) HG7.out rfl
         have f5:=free_slot (o:=5) HG7.out
         have z6:=cell_slot (o:=6) HG7.out rfl
         have f6:=free_slot (o:=6) HG7.out
         have z7:=cell_slot (o:=7) HG7.out rfl
         have f7:=free_slot (o:=7) HG7.out
         have z8:=cell_slot (o:=8) HG7.out rfl
         have f8:=free_slot (o:=8) HG7.out
         go_wp2_with fail
         refine bodyPost_ret (results_row_tmp rfl _ _ g 54 _ (0,0) _ rfl (set_slot (set_slot (set_slot (set_slot (set_slot (set_slot (set_slot (set_slot (set_slot HG7.out 0 _) 1 _) 2 _) 3 _) 4 _) 5 _) 6 _) 7 _) 8 _) Try.underlying54 rfl (by kernel_rfl)) rfl ?_
         refine HQ.out _ _ ?_
         rw [HP.out]
         refine ⟨(below_set (by rw [HGG.out];exact Nat.le_refl _) (below_set (by rw [HGG.out];exact Nat.le_refl _) (below_set (by rw [HGG.out];exact Nat.le_refl _) (below_set (by rw [HGG.out];exact Nat.le_refl _) (below_set (by rw [HGG.out];exact Nat.le_refl _) (below_set (by rw [HGG.out];exact Nat.le_refl _) (below_set (by rw [HGG.out];exact Nat.le_refl _) (below_set (by rw [HGG.out];exact Nat.le_refl _) (below_set (by rw [HGG.out];exact Nat.le_refl _) HBW.out 0 _) 1 _) 2 _) 3 _) 4 _) 5 _) 6 _) 7 _) 8 _),.inr ⟨a,k,A5,c5,rfl,by omega,by rw [HKK.out];exact hkK,by rw [HFN2.out];rfl,?_⟩⟩
         have hgw:g<wr.heap.size:=Nat.lt_of_lt_of_le (lt_of_block HG.out) HBR.out.size
         have hww:w.heap.size≤wr.heap.size:=by rw [HGG.out];exact Nat.le_of_lt hgw
         exact nine_own (own_base HO7.out hww) (fun q hq e=>by have:=(HO7.out.lt q (fp_own.1 hq)).1;omega) _ _ _ _ _ _ _ _ _
        ·have hkK:K≤(k:Int) - 1:=by
          have:¬ (k:Int)≤K:=fun h=>hle (HIF.out.2 h)
          omega
         go_wp2_with fail
         go_roundw
         case rel=>exact ⟨(k:Int) - 1,hkK,by omega,by simp,HBX⟩
         case measure=>simp [intOf];omega
       refine AllReadyH.cons rfl (fun K hK=>?_) ?_
       ·skip
        go_simp
        refine hK.out _ _ ?_ (fun hHeld=>?_)
        ·exact HS.out _ ((((Below.refl wr.heap.size wr).drew).alloc (Nat.le_refl _) _).alloc (by simp) _)
        clear hK K
        go_simp
        refine wpAnyH_ready (rs:=[37]) (by kernel_rfl) (by simp) ?_
        refine AllReadyH.cons rfl (fun K hK=>?_) AllReadyH.nil
        have HO0:Hid (((wr.drew.alloc (.cells #[] 5)).alloc (.cells #[.int .i64 0,.int .i64 0,.int .i64 0,.int .i64 0,.int .i64 0,.int .i64 0,.bool false,.slice none 0 0,.slice none 0 0] 54)).ownsRow wr.heap.size 5 1 (.slice (some ⟨wr.heap.size,0,none⟩) 0 0) 0 []):=(own_new wr.drew #[] 5 1 0 _ _ rfl rfl (by unfold maxLen;omega) (by simp)).alloc _
        have HD0:Hid (Below wr.heap.size wr ((wr.drew.alloc (.cells #[] 5)).alloc (.cells #[.int .i64 0,.int .i64 0,.int .i64 0,.int .i64 0,.int .i64 0,.int .i64 0,.bool false,.slice none 0 0,.slice none 0 0] 54))):=((((Below.refl wr.heap.size wr).drew).alloc (Nat.le_refl _) _).alloc (by simp) _)
        refine step_own rfl (.tmp 44) (.tmp 53) 30 rfl wr.heap.size 5 i0 (.int .u8 0) 1 1 Try.underlying30 HI.out.1 HI.out.2.1 HI.out.2.2.1 HI.out.2.2.2 rfl (by decide) (.slice (some ⟨wr.heap.size,0,none⟩) 0 0) 0 [] (by simp [Act.eval,Act.put]) HO0.out wr.heap.size xA (en - a) (cv - a) (bv ((s.bs.drop a).take k)) (by simp [Act.eval,Act.put]) (HRX.out _ HD0.out) (ones_bv _) (by unfold maxLen;omega) (by omega) HD0.out.size ?_
        intro v5 w5 ho5 hg5
        have HB5:Hid (Below wr.heap.size wr w5):=HD0.out.grown hg5 HD0.out.size (fun g hg=>(HO0.out.lt g hg).1)
        have HGX5:Hid (w5.heap[wr.heap.size+1]?=some (.cells #[.int .i64 0,.int .i64 0,.int .i64 0,.int .i64 0,.int .i64 0,.int .i64 0,.bool false,.slice none 0 0,.slice none 0 0] 54 (0,0))):=(hg5.block _ (lt_of_block (by have h:=heap_alloc_new (wr.drew.alloc (.cells #[] 5)) (.cells #[.int .i64 0,.int .i64 0,.int .i64 0,.int .i64 0,.int .i64 0,.int .i64 0,.bool false,.slice none 0 0,.slice none 0 0] 54);rw [show (wr.drew.alloc (.cells #[] 5)).heap.size=wr.heap.size+1 by simp] at h;exact h)) (by simp [Value.ownBlock])).trans (by have h:=heap_alloc_new (wr.drew.alloc (.cells #[] 5)) (.cells #[.int .i64 0,.int .i64 0,.int .i64 0,.int .i64 0,.int .i64 0,.int .i64 0,.bool false,.slice none 0 0,.slice none 0 0] 54);rw [show (wr.drew.alloc (.cells #[] 5)).heap.size=wr.heap.size+1 by simp] at h;exact h)
        rw [show 0+(en - a)=k by have:=HEN.out;omega,List.nil_append] at ho5
        obtain ⟨A5,c5,e5,_⟩:=own_form ho5
        subst e5
        have HO5:=Lib.hid ho5
        clear ho5 hg5
        refine hK.out _ _ ?_ (fun hHeld=>?_)
        ·exact HS.out _ HB5.out
        clear hK K
        go_simp
        refine wpAnyH_take (i:=38) (v:=?_) rfl (by kernel_rfl) (by kernel_rfl) (by kernel_rfl) (fun _ _ _ h=>h) (Or.inl ⟨by rfl,?_⟩) (by assumption) ?_
        rotate_left
        ·intro w hSw;(try dsimp only at hSw);go_simp;try with_reducible rfl
        go_simp
        refine wpAnyH_ready (rs:=[40]) (by kernel_rfl) (by simp) ?_
        refine AllReadyH.cons rfl (fun K hK=>?_) AllReadyH.nil
        have q0:=cell_slot (o:=0) HGX5.out rfl
        have f0:=free_slot (o:=0) HGX5.out
        have q1:=cell_slot (o:=1) HGX5.out rfl
        have f1:=free_slot (o:=1) HGX5.out
        have q2:=cell_slot (o:=2) HGX5.out rfl
        have f2:=free_slot (o:=2) HGX5.out
        have q3:=cell_slot (o:=3) HGX5.out rfl
        have f3:=free_slot (o:=3) HGX5.out
        have q4:=cell_slot (o:=4) HGX5.out rfl
        have f4:=free_slot (o:=4) HGX5.out
        have q5:=cell_slot (o:=5) HGX5.out rfl
        have f5:=free_slot (o:=5) HGX5.out
        have q6:=cell_slot (o:=6) HGX5.out rfl
        have f6:=free_slot (o:=6) HGX5.out
        have q7:=cell_slot (o:=7) HGX5.out rfl
        have f7:=free_slot (o:=7) HGX5.out
        have q8:=cell_slot (o:=8) HGX5.out rfl
        have f8:=free_slot (o:=8) HGX5.out
        go_simp
        refine hK.out _ _ ?_ (fun hHeld=>?_)
        ·exact HS.out _ (below_set (by simp) (below_set (by simp) (below_set (by simp) (below_set (by simp) (below_set (by simp) (below_set (by simp) (below_set (by simp) (below_set (by simp) (below_set (by simp) HB5.out _ _) _ _) _ _) _ _) _ _) _ _) _ _) _ _) _ _)
        clear hK K
        go_simp
        refine wpAnyH_done (by kernel_rfl) ?_ _
        have hgo:∀ q ∈ fp (.slice A5 k c5),q≠wr.heap.size+1:=fun q hq e=>own_other HO5.out HGX5.out (by decide) (e ▸ fp_own.1 hq)
        have HX5:=nine_heap HGX5.out (.int .i64 3) (.int .i64 s.id) (.int .i64 (a:Int)) (.int .i64 0) (.int .i64 0) (.int .i64 0) (.bool false) (.slice A5 k c5) (.slice none 0 0)
        have HO5':=nine_own HO5.out hgo (.int .i64 3) (.int .i64 s.id) (.int .i64 (a:Int)) (.int .i64 0) (.int .i64 0) (.int .i64 0) (.bool false) (.slice A5 k c5) (.slice none 0 0)
        obtain ⟨w6,hw6⟩:∃ x,(((((((((w5.setCell ⟨wr.heap.size+1,0,none⟩ (.int .i64 3)).setCell ⟨wr.heap.size+1,1,none⟩ (.int .i64 s.id)).setCell ⟨wr.heap.size+1,2,none⟩ (.int .i64 (a:Int))).setCell ⟨wr.heap.size+1,3,none⟩ (.int .i64 0)).setCell ⟨wr.heap.size+1,4,none⟩ (.int .i64 0)).setCell ⟨wr.heap.size+1,5,none⟩ (.int .i64 0)).setCell ⟨wr.heap.size+1,6,none⟩ (.bool false)).setCell ⟨wr.heap.size+1,7,none⟩ (.slice A5 k c5)).setCell ⟨wr.heap.size+1,8,none⟩ (.slice none 0 0))=x:=⟨_,rfl⟩
        have HB6:Hid (Below wr.heap.size wr w6):=by rw [← hw6];exact (below_set (by simp) (below_set (by simp) (below_set (by simp) (below_set (by simp) (below_set (by simp) (below_set (by simp) (below_set (by simp) (below_set (by simp) (below_set (by simp) HB5.out _ _) _ _) _ _) _ _) _ _) _ _) _ _) _ _) _ _)
        obtain ⟨gx,hgx⟩:∃ x,wr.heap.size+1=x:=⟨_,rfl⟩
        have HX6:Hid (FrB w6 gx 3 s.id (a:Int) 0 0 0 false A5 k c5 none 0 0):=by rw [← hw6,← hgx];exact HX5
        have HO6:Hid (w6.ownsRow wr.heap.size 5 1 (.slice A5 k c5) k (bv ((s.bs.drop a).take k))):=by rw [← hw6];exact HO5'
        rw [hw6,hgx]
        clear HX5 HO5' hgo HGX5 q0 q1 q2 q3 q4 q5 q6 q7 q8 f0 f1 f2 f3 f4 f5 f6 f7 f8
        clear hw6 hgx HB5 HO5 HS HRX
        obtain ⟨y0,y1,y2,y3,y4,y5,y6,y7,y8⟩:=HX6.out.cells
        go_wp2_with fail
        refine (HSZ.out false _ A5 k c5 w6 (by have:=Rd.of_own HO6.out;rw [Nat.mul_one] at this;exact this) hk120).mono ?_
        rintro e w7 ⟨rfl,hb7⟩
        have HB7:Hid (Below wr.heap.size wr w7):=HB6.out.trans (hb7.mono HB6.out.size)
        have HX7:Hid (FrB w7 gx 3 s.id (a:Int) 0 0 0 false A5 k c5 none 0 0):=(hb7.block gx (lt_of_block HX6.out)).trans HX6.out
        have HO7:Hid (w7.ownsRow wr.heap.size 5 1 (.slice A5 k c5) k (bv ((s.bs.drop a).take k))):=own_below HO6.out hb7
        clear y0 y1 y2 y3 y4 y5 y6 y7 y8 hb7 HX6 HO6
        obtain ⟨y0,y1,y2,y3,y4,y5,y6,y7,y8⟩:=HX7.out.cells
        obtain ⟨sz,hsz⟩:∃ x,2+(wid s.id:Int)+(wid (a:Int):Int)+(wid (k:Int):Int)+(k:Int)=x:=⟨_,rfl⟩
        have HIF:Hid (sz≤room↔(k:Int)≤K):=by
         have:=HFI.out (k:Int) (by omega) (by have:=HM0.out;omega) hkI
         rw [hsz] at this
         exact this
        rw [hsz]
        clear hsz
        have HBX:Hid (Below w1.heap.size w1 w7):=HBR.out.trans (HB7.out.mono HBR.out.size)
        by_cases hle:sz≤room
        ·have hkK:(k:Int)=K:=by have:=HIF.out.1 hle;omega
         have HG7:Hid (w7.heap[g]?=_):=(HBX.out.block g (lt_of_block HG.out)).trans HG.out
         have HBW:Hid (Below w.heap.size w w7):=HB1.out.trans (HBX.out.mono HB1.out.size)
         have HFN2:Hid (finS s (a:Int) (k:Int)=false):=HFN.out.trans rfl
         have z0:=cell_slot (o:=0) HG7.out rfl
         have f0:=free_slot (o:=0) HG7.out
         have z1:=cell_slot (o:=1) HG7.out rfl
         have f1:=free_slot (o:=1) HG7.out
         have z2:=cell_slot (o:=2) HG7.out rfl
         have f2:=free_slot (o:=2) HG7.out
         have z3:=cell_slot (o:=3) HG7.out rfl
         have f3:=free_slot (o:=3) HG7.out
         have z4:=cell_slot (o:=4) HG7.out rfl
         have f4:=free_slot (o:=4) HG7.out
         have z5:=cell_slot (o:=5) HG7.out rfl
         have f5:=free_slot (o:=5) HG7.out
         have z6:=cell_slot (o:=6) HG7.out rfl
         have f6:=free_slot (o:=6) HG7.out
         have z7:=cell_slot (o:=7) HG7.out rfl
         have f7:=free_slot (o:=7) HG7.out
         have z8:=cell_slot (o:=8) HG7.out rfl
         have f8:=free_slot (o:=8) HG7.out
         go_wp2_with fail
         refine bodyPost_ret (results_row_tmp rfl _ _ g 54 _ (0,0) _ rfl (set_slot (set_slot (set_slot (set_slot (set_slot (set_slot (set_slot (set_slot (set_slot HG7.out 0 _) 1 _) 2 _) 3 _) 4 _) 5 _) 6 _) 7 _) 8 _) Try.underlying54 rfl (by kernel_rfl)) rfl ?_
         refine HQ.out _ _ ?_
         rw [HP.out]
         refine ⟨(below_set (by rw [HGG.out];exact Nat.le_refl _) (below_set (by rw [HGG.out];exact Nat.le_refl _) (below_set (by rw [HGG.out];exact Nat.le_refl _) (below_set (by rw [HGG.out];exact Nat.le_refl _) (below_set (by rw [HGG.out];exact Nat.le_refl _) (below_set (by rw [HGG.out];exact Nat.le_refl _) (below_set (by rw [HGG.out];exact Nat.le_refl _) (below_set (by rw [HGG.out];exact Nat.le_refl _) (below_set (by rw [HGG.out];exact Nat.le_refl _) HBW.out 0 _) 1 _) 2 _) 3 _) 4 _) 5 _) 6 _) 7 _) 8 _),.inr ⟨a,k,A5,c5,rfl,by omega,by rw [HKK.out];exact hkK,by rw [HFN2.out];rfl,?_⟩⟩
         have hgw:g<wr.heap.size:=Nat.lt_of_lt_of_le (lt_of_block HG.out) HBR.out.size
         have hww:w.heap.size≤wr.heap.size:=by rw [HGG.out];exact Nat.le_of_lt hgw
         exact nine_own (own_base HO7.out hww) (fun q hq e=>by have:=(HO7.out.lt q (fp_own.1 hq)).1;omega) _ _ _ _ _ _ _ _ _
        ·have hkK:K≤(k:Int) - 1:=by
          have:¬ (k:Int)≤K:=fun h=>hle (HIF.out.2 h)
          omega
         go_wp2_with fail
         go_roundw
         case rel=>exact ⟨(k:Int) - 1,hkK,by omega,by simp,HBX⟩
         case measure=>simp [intOf];omega
       exact AllReadyH.nil
      refine AllReadyH.cons rfl (fun K hK=>?_) ?_
      ·skip
       go_simp
       refine hK.out _ _ ?_ (fun hHeld=>?_)
       ·exact HS.out _ (((Below.refl wr.heap.size wr).drew).alloc (Nat.le_refl _) _)
       clear hK K
       go_simp
       refine wpAnyH_ready (rs:=[27]) (by kernel_rfl) (by simp) ?_
       refine AllReadyH.cons rfl (fun K hK=>?_) AllReadyH.nil
       go_simp
       refine hK.out _ _ ?_ (fun hHeld=>?_)
       ·exact HS.out _ ((((Below.refl wr.heap.size wr).drew).alloc (Nat.le_refl _) _).alloc (by simp) _)
       clear hK K
       go_simp
       refine wpAnyH_ready (rs:=[37]) (by kernel_rfl) (by simp) ?_
       refine AllReadyH.cons rfl (fun K hK=>?_) AllReadyH.nil
       have HO0:Hid (((wr.drew.alloc (.cells #[.int .i64 0,.int .i64 0,.int .i64 0,.int .i64 0,.int .i64 0,.int .i64 0,.bool false,.slice none 0 0,.slice none 0 0] 54)).alloc (.cells #[] 5)).ownsRow wr.heap.size 5 1 (.slice (some ⟨wr.heap.size+1,0,none⟩) 0 0) 0 []):=own_new (wr.drew.alloc (.cells #[.int .i64 0,.int .i64 0,.int .i64 0,.int .i64 0,.int .i64 0,.int .i64 0,.bool false,.slice none 0 0,.slice none 0 0] 54)) #[] 5 1 0 _ _ (by simp) rfl (by unfold maxLen;omega) (by simp)
       have HD0:Hid (Below wr.heap.size wr ((wr.drew.alloc (.cells #[.int .i64 0,.int .i64 0,.int .i64 0,.int .i64 0,.int .i64 0,.int .i64 0,.bool false,.slice none 0 0,.slice none 0 0] 54)).alloc (.cells #[] 5))):=((((Below.refl wr.heap.size wr).drew).alloc (Nat.le_refl _) _).alloc (by simp) _)
       refine step_own rfl (.tmp 44) (.tmp 53) 30 rfl wr.heap.size 5 i0 (.int .u8 0) 1 1 Try.underlying30 HI.out.1 HI.out.2.1 HI.out.2.2.1 HI.out.2.2.2 rfl (by decide) (.slice (some ⟨wr.heap.size+1,0,none⟩) 0 0) 0 [] (by simp [Act.eval,Act.put]) HO0.out wr.heap.size xA (en - a) (cv - a) (bv ((s.bs.drop a).take k)) (by simp [Act.eval,Act.put]) (HRX.out _ HD0.out) (ones_bv _) (by unfold maxLen;omega) (by omega) HD0.out.size ?_
       intro v5 w5 ho5 hg5
       have HB5:Hid (Below wr.heap.size wr w5):=HD0.out.grown hg5 HD0.out.size (fun g hg=>(HO0.out.lt g hg).1)
       have HGX5:Hid (w5.heap[wr.heap.size]?=some (.cells #[.int .i64 0,.int .i64 0,.int .i64 0,.int .i64 0,.int .i64 0,.int .i64 0,.bool false,.slice none 0 0,.slice none 0 0] 54 (0,0))):=(hg5.block _ (lt_of_block (((Below.refl (wr.heap.size+1) (wr.drew.alloc (.cells #[.int .i64 0,.int .i64 0,.int .i64 0,.int .i64 0,.int .i64 0,.int .i64 0,.bool false,.slice none 0 0,.slice none 0 0] 54))).alloc (by simp) (.cells #[] 5)).block wr.heap.size (by omega) |>.trans (heap_alloc_new wr.drew _))) (by simp [Value.ownBlock])).trans (((Below.refl (wr.heap.size+1) (wr.drew.alloc (.cells #[.int .i64 0,.int .i64 0,.int .i64 0,.int .i64 0,.int .i64 0,.int .i64 0,.bool false,.slice none 0 0,.slice none 0 0] 54))).alloc (by simp) (.cells #[] 5)).block wr.heap.size (by omega) |>.trans (heap_alloc_new wr.drew _))
       rw [show 0+(en - a)=k by have:=HEN.out;omega,List.nil_append] at ho5
       obtain ⟨A5,c5,e5,_⟩:=own_form ho5
       subst e5
       have HO5:=Lib.hid ho5
       clear ho5 hg5
       refine hK.out _ _ ?_ (fun hHeld=>?_)
       ·exact HS.out _ HB5.out
       clear hK K
       go_simp
       refine wpAnyH_take (i:=38) (v:=?_) rfl (by kernel_rfl) (by kernel_rfl) (by kernel_rfl) (fun _ _ _ h=>h) (Or.inl ⟨by rfl,?_⟩) (by assumption) ?_
       rotate_left
       ·intro w hSw;(try dsimp only at hSw);go_simp;try with_reducible rfl
       go_simp
       refine wpAnyH_ready (rs:=[40]) (by kernel_rfl) (by simp) ?_
       refine AllReadyH.cons rfl (fun K hK=>?_) AllReadyH.nil
       have q0:=cell_slot (o:=0) HGX5.out rfl
       have f0:=free_slot (o:=0) HGX5.out
       have q1:=cell_slot (o:=1) HGX5.out rfl
       have f1:=free_slot (o:=1) HGX5.out
       have q2:=cell_slot (o:=2) HGX5.out rfl
       have f2:=free_slot (o:=2) HGX5.out
       have q3:=cell_slot (o:=3) HGX5.out rfl
       have f3:=free_slot (o:=3) HGX5.out
       have q4:=cell_slot (o:=4) HGX5.out rfl
       have f4:=free_slot (o:=4) HGX5.out
       have q5:=cell_slot (o:=5) HGX5.out rfl
       have f5:=free_slot (o:=5) HGX5.out
       have q6:=cell_slot (o:=6) HGX5.out rfl
       have f6:=free_slot (o:=6) HGX5.out
       have q7:=cell_slot (o:=7) HGX5.out rfl
       have f7:=free_slot (o:=7) HGX5.out
       have q8:=cell_slot (o:=8) HGX5.out rfl
       have f8:=free_slot (o:=8) HGX5.out
       go_simp
       refine hK.out _ _ ?_ (fun hHeld=>?_)
       ·exact HS.out _ (below_set (by simp) (below_set (by simp) (below_set (by simp) (below_set (by simp) (below_set (by simp) (below_set (by simp) (below_set (by simp) (below_set (by simp) (below_set (by simp) HB5.out _ _) _ _) _ _) _ _) _ _) _ _) _ _) _ _) _ _)
       clear hK K
       go_simp
       refine wpAnyH_done (by kernel_rfl) ?_ _
       have hgo:∀ q ∈ fp (.slice A5 k c5),q≠wr.heap.size:=fun q hq e=>own_other HO5.out HGX5.out (by decide) (e ▸ fp_own.1 hq)
       have HX5:=nine_heap HGX5.out (.int .i64 3) (.int .i64 s.id) (.int .i64 (a:Int)) (.int .i64 0) (.int .i64 0) (.int .i64 0) (.bool false) (.slice A5 k c5) (.slice none 0 0)
       have HO5':=nine_own HO5.out hgo (.int .i64 3) (.int .i64 s.id) (.int .i64 (a:Int)) (.int .i64 0) (.int .i64 0) (.int .i64 0) (.bool false) (.slice A5 k c5) (.slice none 0 0)
       obtain ⟨w6,hw6⟩:∃ x,(((((((((w5.setCell ⟨wr.heap.size,0,none⟩ (.int .i64 3)).setCell ⟨wr.heap.size,1,none⟩ (.int .i64 s.id)).setCell ⟨wr.heap.size,2,none⟩ (.int .i64 (a:Int))).setCell ⟨wr.heap.size,3,none⟩ (.int .i64 0)).setCell ⟨wr.heap.size,4,none⟩ (.int .i64 0)).setCell ⟨wr.heap.size,5,none⟩ (.int .i64 0)).setCell ⟨wr.heap.size,6,none⟩ (.bool false)).setCell ⟨wr.heap.size,7,none⟩ (.slice A5 k c5)).setCell ⟨wr.heap.size,8,none⟩ (.slice none 0 0))=x:=⟨_,rfl⟩
       have HB6:Hid (Below wr.heap.size wr w6):=by rw [← hw6];exact (below_set (by simp) (below_set (by simp) (below_set (by simp) (below_set (by simp) (below_set (by simp) (below_set (by simp) (below_set (by simp) (below_set (by simp) (below_set (by simp) HB5.out _ _) _ _) _ _) _ _) _ _) _ _) _ _) _ _) _ _)
       obtain ⟨gx,hgx⟩:∃ x,wr.heap.size=x:=⟨_,rfl⟩
       have HX6:Hid (FrB w6 gx 3 s.id (a:Int) 0 0 0 false A5 k c5 none 0 0):=by rw [← hw6,← hgx];exact HX5
       have HO6:Hid (w6.ownsRow wr.heap.size 5 1 (.slice A5 k c5) k (bv ((s.bs.drop a).take k))):=by rw [← hw6];exact HO5'
       rw [hw6,hgx]
       clear HX5 HO5' hgo HGX5 q0 q1 q2 q3 q4 q5 q6 q7 q8 f0 f1 f2 f3 f4 f5 f6 f7 f8
       clear hw6 hgx HB5 HO5 HS HRX
       obtain ⟨y0,y1,y2,y3,y4,y5,y6,y7,y8⟩:=HX6.out.cells
       go_wp2_with fail
       refine (HSZ.out false _ A5 k c5 w6 (by have:=Rd.of_own HO6.out;rw [Nat.mul_one] at this;exact this) hk120).mono ?_
       rintro e w7 ⟨rfl,hb7⟩
       have HB7:Hid (Below wr.heap.size wr w7):=HB6.out.trans (hb7.mono HB6.out.size)
       have HX7:Hid (FrB w7 gx 3 s.id (a:Int) 0 0 0 false A5 k c5 none 0 0):=(hb7.block gx (lt_of_block HX6.out)).trans HX6.out
       have HO7:Hid (w7.ownsRow wr.heap.size 5 1 (.slice A5 k c5) k (bv ((s.bs.drop a).take k))):=own_below HO6.out hb7
       clear y0 y1 y2 y3 y4 y5 y6 y7 y8 hb7 HX6 HO6
       obtain ⟨y0,y1,y2,y3,y4,y5,y6,y7,y8⟩:=HX7.out.cells
       obtain ⟨sz,hsz⟩:∃ x,2+(wid s.id:Int)+(wid (a:Int):Int)+(wid (k:Int):Int)+(k:Int)=x:=⟨_,rfl⟩
       have HIF:Hid (sz≤room↔(k:Int)≤K):=by
        have:=HFI.out (k:Int) (by omega) (by have:=HM0.out;omega) hkI
        rw [hsz] at this
        exact this
       rw [hsz]
       clear hsz
       have HBX:Hid (Below w1.heap.size w1 w7):=HBR.out.trans (HB7.out.mono HBR.out.size)
       by_cases hle:sz≤room
       ·have hkK:(k:Int)=K:=by have:=HIF.out.1 hle;omega
        have HG7:Hid (w7.heap[g]?=_):=(HBX.out.block g (lt_of_block HG.out)).trans HG.out
        have HBW:Hid (Below w.heap.size w w7):=HB1.out.trans (HBX.out.mono HB1.out.size)
        have HFN2:Hid (finS s (a:Int) (k:Int)=false):=HFN.out.trans rfl
        have z0:=cell_slot (o:=0) HG7.out rfl
        have f0:=free_slot (o:=0) HG7.out
        have z1:=cell_slot (o:=1) HG7.out rfl
        have f1:=free_slot (o:=1) HG7.out
        have z2:=cell_slot (o:=2) HG7.out rfl
        have f2:=free_slot (o:=2) HG7.out
        have z3:=cell_slot (o:=3) HG7.out rfl
        have f3:=free_slot (o:=3) HG7.out
        have z4:=cell_slot (o:=4) HG7.out rfl
        have f4:=free_slot (o:=4) HG7.out
        have z5:=cell_slot (o:=5) HG7.out rfl
        have f5:=free_slot (o:=5) HG7.out
        have z6:=cell_slot (o:=6) HG7.out rfl
        have f6:=free_slot (o:=6) HG7.out
        have z7:=cell_slot (o:=7) HG7.out rfl
        have f7:=free_slot (o:=7) HG7.out
        have z8:=cell_slot (o:=8) HG7.out rfl
        have f8:=free_slot (o:=8) HG7.out
        go_wp2_with fail
        refine bodyPost_ret (results_row_tmp rfl _ _ g 54 _ (0,0) _ rfl (set_slot (set_slot (set_slot (set_slot (set_slot (set_slot (set_slot (set_slot (set_slot HG7.out 0 _) 1 _) 2 _) 3 _) 4 _) 5 _) 6 _) 7 _) 8 _) Try.underlying54 rfl (by kernel_rfl)) rfl ?_
        refine HQ.out _ _ ?_
        rw [HP.out]
        refine ⟨(below_set (by rw [HGG.out];exact Nat.le_refl _) (below_set (by rw [HGG.out];exact Nat.le_refl _) (below_set (by rw [HGG.out];exact Nat.le_refl _) (below_set (by rw [HGG.out];exact Nat.le_refl _) (below_set (by rw [HGG.out];exact Nat.le_refl _) (below_set (by rw [HGG.out];exact Nat.le_refl _) (below_set (by rw [HGG.out];exact Nat.le_refl _) (below_set (by rw [HGG.out];exact Nat.le_refl _) (below_set (by rw [HGG.out];exact Nat.le_refl _) HBW.out 0 _) 1 _) 2 _) 3 _) 4 _) 5 _) 6 _) 7 _) 8 _),.inr ⟨a,k,A5,c5,rfl,by omega,by rw [HKK.out];exact hkK,by rw [HFN2.out];rfl,?_⟩⟩
        have hgw:g<wr.heap.size:=Nat.lt_of_lt_of_le (lt_of_block HG.out) HBR.out.size
        have hww:w.heap.size≤wr.heap.size:=by rw [HGG.out];exact Nat.le_of_lt hgw
        exact nine_own (own_base HO7.out hww) (fun q hq e=>by have:=(HO7.out.lt q (fp_own.1 hq)).1;omega) _ _ _ _ _ _ _ _ _
       ·have hkK:K≤(k:Int) - 1:=by
         have:¬ (k:Int)≤K:=fun h=>hle (HIF.out.2 h)
         omega
        go_wp2_with fail
        go_roundw
        case rel=>exact ⟨(k:Int) - 1,hkK,by omega,by simp,HBX⟩
        case measure=>simp [intOf];omega
      exact AllReadyH.nil
   ·have hK0:K=0:=by have:=HK.out;omega
    have HG2:Hid (wr.heap[g]?=_):=(HBR.out.block g (lt_of_block HG.out)).trans HG.out
    have y0:=cell_slot (o:=0) HG2.out rfl
    have f0:=free_slot (o:=0) HG2.out
    have y1:=cell_slot (o:=1) HG2.out rfl
    have f1:=free_slot (o:=1) HG2.out
    have y2:=cell_slot (o:=2) HG2.out rfl
    have f2:=free_slot (o:=2) HG2.out
    have y3:=cell_slot (o:=3) HG2.out rfl
    have f3:=free_slot (o:=3) HG2.out
    have y4:=cell_slot (o:=4) HG2.out rfl
    have f4:=free_slot (o:=4) HG2.out
    have y5:=cell_slot (o:=5) HG2.out rfl
    have f5:=free_slot (o:=5) HG2.out
    have y6:=cell_slot (o:=6) HG2.out rfl
    have f6:=free_slot (o:=6) HG2.out
    have y7:=cell_slot (o:=7) HG2.out rfl
    have f7:=free_slot (o:=7) HG2.out
    have y8:=cell_slot (o:=8) HG2.out rfl
    have f8:=free_slot (o:=8) HG2.out
    have HBW:Hid (Below w.heap.size w wr):=HB1.out.trans (HBR.out.mono HB1.out.size)
    go_wp2_with fail
    refine bodyPost_ret (results_row_tmp rfl _ _ g 54 _ (0,0) _ rfl (set_slot (set_slot (set_slot (set_slot (set_slot (set_slot (set_slot (set_slot (set_slot HG2.out 0 _) 1 _) 2 _) 3 _) 4 _) 5 _) 6 _) 7 _) 8 _) Try.underlying54 rfl (by kernel_rfl)) rfl ?_
    refine HQ.out _ _ ?_
    rw [HP.out]
    exact ⟨(below_set (by rw [HGG.out];exact Nat.le_refl _) (below_set (by rw [HGG.out];exact Nat.le_refl _) (below_set (by rw [HGG.out];exact Nat.le_refl _) (below_set (by rw [HGG.out];exact Nat.le_refl _) (below_set (by rw [HGG.out];exact Nat.le_refl _) (below_set (by rw [HGG.out];exact Nat.le_refl _) (below_set (by rw [HGG.out];exact Nat.le_refl _) (below_set (by rw [HGG.out];exact Nat.le_refl _) (below_set (by rw [HGG.out];exact Nat.le_refl _) HBW.out 0 _) 1 _) 2 _) 3 _) 4 _) 5 _) 6 _) 7 _) 8 _),.inl ⟨by rw [HKK.out];exact hK0,rfl⟩⟩
end
end Go.Proofs.Ytoahkffdoaphlaa.Se
