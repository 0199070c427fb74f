/- Joined texts. Conditions: as each theorem lists them. -/
import Derived.Test.YtoahkffdoaphlaaJZi
import Derived.Test.YtoahkffdoaphlaaJZg
set_option linter.unusedSimpArgs false
set_option linter.unusedVariables false
set_option maxRecDepth 100000
set_option maxHeartbeats 80000000
namespace Go.Proofs.Ytoahkffdoaphlaa.Re
open Go Go.RowKit Go.Proofs.Ytoahkffdoaphlaa Go.Proofs.Ytoahkffdoaphlaa.Sp Go.Proofs.Ytoahkffdoaphlaa.Se Go.Maps
/-- Each byte that came, and was not taken, is kept as B says; what was taken came. -/
structure RG (s:Rs) (B:Nat→Nat):Prop where
 ok:Ok s.es
 lt:∀ x:Int,mem s.es x=true→0≤x∧x<s.top
 top:0≤s.top∧s.top≤s.tl
 tl:s.tl≤1125899906842624
 tk:0≤s.tk∧s.tk≤s.top
 kept:∀ x:Nat,mem s.es (x:Int)=true→s.tk≤(x:Int)→s.K x=B x
 had:∀ x:Int,0≤x→x<s.tk→mem s.es x=true
theorem newR_RG (B:Nat→Nat):RG newR B :=
 ⟨ok_nil,fun x hx=>by simp [newR,mem,up,oddB] at hx,⟨Int.le_refl _,by show (0:Int)≤400;omega⟩,by show (400:Int)≤_;omega,⟨Int.le_refl _,Int.le_refl _⟩,fun x hx=>by simp [newR,mem,up,oddB] at hx,fun x h0 h1=>by have h1':x<0:=h1;omega⟩
theorem RG.put {s:Rs} {B:Nat→Nat} (h:RG s B) (off:Nat) (fin:Bool) (b:List Nat) (hb:∀ i,i<b.length→mem s.es ((off+i:Nat):Int)=false→b.getD i 0=B (off+i)) (hr:refuseS s ((off:Int)+(b.length:Int)) fin=0) :
  RG (putS s (off:Int) fin b).2.2 B∧∀ x:Int,mem (putS s (off:Int) fin b).2.2.es x=(decide ((off:Int)≤x∧x<(off:Int)+(b.length:Int)) || mem s.es x):=by
 obtain ⟨h1,h2,h3⟩:=refuse_zero hr
 have htl:=h.tl
 have hto:off+b.length≤4611686018427387903:=by omega
 rw [put_form s off fin b hto hr]
 obtain ⟨e,he⟩:∃ e,(off:Int)+(b.length:Int)=e:=⟨_,rfl⟩
 rw [he] at h1 h2 h3 ⊢
 have hm:∀ x:Int,mem (turn s.es off e true) x=(decide ((off:Int)≤x∧x<e) || mem s.es x):=fun x=>by
  rw [mem_turn _ _ _ _ h.ok,clamp_nat (by omega) (by omega),clamp_nat (by omega) (by omega)]
  by_cases hx:(off:Int)≤x∧x<e
  ·rw [if_pos hx];simp [hx]
  ·rw [if_neg hx];simp [hx]
 have htp:=h.top
 have htk:=h.tk
 have hge:s.top≤topS s e fin b.length:=by unfold topS;split <;> omega
 have hle:topS s e fin b.length≤s.tl:=by unfold topS;split <;> omega
 refine ⟨⟨ok_turn _ _ _ _ h.ok,fun x hx=>?_,⟨by show 0≤topS _ _ _ _;omega,hle⟩,h.tl,⟨htk.1,by show s.tk≤topS _ _ _ _;omega⟩,fun x hx hxt=>?_,fun x h0 hx=>?_⟩,hm⟩
 ·have hx':mem (turn s.es off e true) x=true:=hx
  rw [hm] at hx'
  show 0≤x∧x<topS s e fin b.length
  simp only [Bool.or_eq_true,decide_eq_true_eq] at hx'
  rcases hx' with hx' | hx'
  ·refine ⟨by omega,?_⟩
   unfold topS
   rw [if_neg (fun hc=>by omega)]
   omega
  ·have:=h.lt x hx';omega
 ·have hx':mem (turn s.es off e true) (x:Int)=true:=hx
  have hxt':s.tk≤(x:Int):=hxt
  rw [hm] at hx'
  show mixK s.K (gapsF s.es (max (off:Int) s.tk) e) off b x=B x
  unfold mixK
  rw [mem_gaps h.ok,clamp_nat (by omega) (by omega),clamp_nat (by omega) (by omega)]
  by_cases hg:((max (off:Int) s.tk≤(x:Int)∧(x:Int)<e)∧mem s.es (x:Int)=false)
  ·rw [if_pos (by simp [hg])]
   rw [hb _ (by omega) (by rw [show off+(x - off)=x by omega];exact hg.2),show off+(x - off)=x by omega]
  ·rw [if_neg (by simp only [Bool.and_eq_true,decide_eq_true_eq,Bool.not_eq_true'];exact hg)]
   refine h.kept x ?_ hxt'
   simp only [Bool.or_eq_true,decide_eq_true_eq] at hx'
   rcases hx' with hx' | hx'
   ·cases hmm:mem s.es (x:Int) with
    | true=>rfl
    | false=>exact absurd ⟨by omega,hmm⟩ hg
   ·exact hx'
 ·have:=h.had x h0 hx
  show mem (turn s.es off e true) x=true
  rw [hm,this]
  simp
theorem RG.ready {s:Rs} {B:Nat→Nat} (h:RG s B) (x:Int) (h1:s.tk≤x) (h2:x<readyS s):mem s.es x=true:=by
 have h3:=(first_spec h.ok s.tk).2.2 x h1
 refine h3 ?_
 unfold readyS at h2
 split at h2 <;> omega
theorem RG.take {s:Rs} {B:Nat→Nat} (h:RG s B) (hk:RsNum s) (most:Int) (m t:Nat) (hm:nS s most=(m:Int)) (ht:s.tk=(t:Int)) (K':Nat→Nat) (hK:∀ x,t+m≤x→K' x=s.K x) :
  RG (takenS s m K') B∧seqK s.K t m=(List.range m).map fun i=>B (t+i):=by
 have hin:=nS_in hk h.ok most
 have hmr:∀ x:Int,s.tk≤x→x<s.tk+(m:Int)→mem s.es x=true:=fun x h1 h2=>h.ready x h1 (by rw [← hm] at h2;unfold nS at h2;omega)
 refine ⟨⟨h.ok,h.lt,h.top,h.tl,⟨by show 0≤s.tk+(m:Int);have:=h.tk;omega,by show s.tk+(m:Int)≤s.top;omega⟩,fun x hx hxt=>?_,fun x h0 hx=>?_⟩,?_⟩
 ·have hxt':s.tk+(m:Int)≤(x:Int):=hxt
  show K' x=B x
  rw [hK x (by omega)]
  exact h.kept x hx (by omega)
 ·have hx':x<s.tk+(m:Int):=hx
  by_cases hc:x<s.tk
  ·exact h.had x h0 hc
  ·exact hmr x (by omega) hx'
 ·unfold seqK
  refine List.map_congr_left fun i hi=>?_
  have hi':i<m:=by simpa using hi
  exact h.kept _ (hmr _ (by omega) (by omega)) (by omega)
theorem RG.brk {s:Rs} {B:Nat→Nat} (h:RG s B) (code en' sure:Int):RG (breakS s code en' sure).2.2 B:=by
 by_cases hb:code<0∨code > 4611686018427387903∨sure<0∨sure > en'∨en' > 4611686018427387903
 ·unfold breakS;rw [if_pos hb];exact h
 ·by_cases hr:refuseS s en' true=0
  ·obtain ⟨h1,_,h3⟩:=refuse_zero hr
   have h4:=h3 rfl
   have h5:=h.top
   rw [break_form hb hr]
   exact ⟨h.ok,fun x hx=>by have:=h.lt x hx;exact ⟨this.1,by show x<en';omega⟩,⟨by show 0≤en';omega,h1⟩,h.tl,⟨h.tk.1,Int.le_trans h.tk.2 h4⟩,h.kept,h.had⟩
  ·unfold breakS;rw [if_neg hb,if_pos hr];exact h
theorem RG.other {s:Rs} {B B':Nat→Nat} (h:RG s B) (he:∀ x:Nat,mem s.es (x:Int)=true→B' x=B x):RG s B' :=
 ⟨h.ok,h.lt,h.top,h.tl,h.tk,fun x hx ht=>(h.kept x hx ht).trans (he x hx).symm,h.had⟩
/-- What is held of how much may come: by 100 bytes a call. -/
def cF (a:Int):Int:=max 0 (max (3 * min a 249 - 400) (3 * a - 800))
structure Pot (j:Int) (tl tk top:Int):Prop where
 f1:400≤tl
 f2:tl - 400≤tk
 f3:tk≤top
 f4:top≤tl
 f5:4 * (tl - 400)+3 * (tk - (tl - 400))+cF (top - tk)≤400 * j
theorem Pot.new:Pot 0 400 0 0:=⟨by omega,by omega,by omega,by omega,by unfold cF;omega⟩
theorem Pot.stay {j tl tk top:Int} (h:Pot j tl tk top):Pot (j+1) tl tk top:=⟨h.f1,h.f2,h.f3,h.f4,by have:=h.f5;omega⟩
theorem Pot.put {j tl tk top t':Int} (h:Pot j tl tk top) (h1:top≤t') (h2:t'≤tl):Pot (j+1) tl tk t':=by
 obtain ⟨k1,k2,k3,k4,k5⟩:=h
 refine ⟨k1,k2,by omega,h2,?_⟩
 unfold cF at k5 ⊢
 omega
theorem Pot.take {j tl tk top m:Int} (h:Pot j tl tk top) (h0:0≤m) (h1:m≤249) (h2:tk+m≤top):Pot (j+1) tl (tk+m) top:=by
 obtain ⟨k1,k2,k3,k4,k5⟩:=h
 refine ⟨k1,by omega,h2,k4,?_⟩
 unfold cF at k5 ⊢
 omega
theorem Pot.tell {j tl tk top:Int} (h:Pot j tl tk top):Pot (j+1) (max tl (tk+400)) tk top:=by
 obtain ⟨k1,k2,k3,k4,k5⟩:=h
 refine ⟨by omega,by omega,k3,by omega,?_⟩
 unfold cF at k5 ⊢
 omega
theorem Pot.bound {j tl tk top:Int} (h:Pot j tl tk top):tl≤400+100 * j:=by
 obtain ⟨k1,k2,k3,k4,k5⟩:=h
 unfold cF at k5
 omega
theorem cnt_take_le {es:List Int} (h:Ok es):∀ d k:Nat,es.length≤2 * (k+d)→cnt (es.take (2 * k))≤cnt es
 | 0,k,hd=>by rw [List.take_of_length_le (by omega)];exact Int.le_refl _
 | d+1,k,hd=>by
   by_cases hl:2 * k+1<es.length
   ·have ih:=cnt_take_le h d (k+1) (by omega)
    rw [take_pair es k hl,cnt_snoc _ _ _ (by rw [List.length_take];omega)] at ih
    have:=get_mono h.1 (2 * k) (2 * k+1) (by omega) hl
    omega
   ·rw [List.take_of_length_le (by have:=h.2.1;omega)];exact Int.le_refl _
/-- The gaps' bytes and those that came are all. -/
theorem cnt_gaps {es:List Int} (h:Ok es) (N:Nat) (hm:∀ x:Int,mem es x=true→0≤x∧x<(N:Int)) (f g t:Int) (h0:0≤f) (h1:f≤g) (h2:t≤(N:Int)) (h3:(N:Int)≤4611686018427387904) :
  cnt (gapsF es g t)+cnt es≤cnt (turn es f t true):=by
 have hg:=ok_gaps h g t
 have hT:=ok_turn es f t true h
 have hmt:∀ x:Int,mem (turn es f t true) x=if clamp f≤x∧x<clamp t then true else mem es x:=fun x=>mem_turn _ _ _ _ h x
 have hmg:∀ x:Int,mem (gapsF es g t) x=(decide (clamp g≤x∧x<clamp t) && !mem es x):=fun x=>mem_gaps h g t x
 have hcf:0≤clamp f∧clamp f≤clamp g∧clamp t≤(N:Int):=by unfold clamp;omega
 have eg:∀ e ∈ gapsF es g t,0≤e∧e≤(N:Int):=fun e he=>by
  have:=gaps_in h.1 he
  omega
 have ee:∀ e ∈ es,0≤e∧e≤(N:Int):=fun e he=>⟨(h.2.2 e he).1,edge_top h (by omega) hm e he⟩
 have eT:∀ e ∈ turn es f t true,0≤e∧e≤(N:Int):=fun e he=>⟨(hT.2.2 e he).1,edge_top hT (by omega) (fun x hx=>by
  rw [hmt] at hx
  split at hx
  ·omega
  ·exact hm x hx) e he⟩
 rw [cnt_card N _ hg.1 hg.2.1 eg,cnt_card N _ h.1 h.2.1 ee,cnt_card N _ hT.1 hT.2.1 eT]
 have k1:=card_or N (mem (gapsF es g t)) (mem es) (fun i hi=>by
  rw [hmg] at hi
  simp only [Bool.and_eq_true,Bool.not_eq_true'] at hi
  exact hi.2)
 have k2:card N (fun i=>mem (gapsF es g t) i || mem es i)≤card N (mem (turn es f t true)):=by
  unfold card
  refine List.countP_mono_left fun x _ hx=>?_
  have hx:(mem (gapsF es g t) (x:Int) || mem es (x:Int))=true:=hx
  rw [hmt]
  rw [hmg] at hx
  split
  ·rfl
  ·rename_i hn
   simp only [Bool.or_eq_true,Bool.and_eq_true,decide_eq_true_eq] at hx
   rcases hx with ⟨hx,_⟩ | hx
   ·exact absurd ⟨by omega,hx.2⟩ hn
   ·exact hx
 omega
section
variable {w w':World} {p:Nat} {F:List Nat} {v0 v4:Value} {n:Nat} {s:Rs}
/-- What stands at a round of Put: j runs were put. -/
structure PutI2 (w wr:World) (p:Nat) (F:List Nat) (n:Nat) (s:Rs) (off:Nat) (b:List Nat) (A:Option Addr) (Ag:Option Addr) (m:Nat) (gs:List Int) (j pos:Nat):Prop where
 st:RcTo w wr p F (n+(cnt (gs.take (2 * j))).toNat) (withK s (mixK s.K (gs.take (2 * j)) off b))
 lo:off≤pos
 up:pos≤off+b.length
 hi:∀ i,2 * j≤i→i<gs.length→(pos:Int)≤gs.getD i 0
 row:Rd wr wr.heap.size Ag (m * 2) (ints gs)
 rowp:0<m→∀ a,Ag=some a→a.block≠p
 dat:Rd wr wr.heap.size A b.length (bv b)
 datp:0<b.length→∀ a,A=some a→a.block≠p
theorem put_ok2 (h:RcIn w p F v0 v4 n s) (hk:RsNum s) (off:Nat) (fin:Bool) (b:List Nat) (A:Option Addr) (c:Nat) (hto:off+b.length≤4611686018427387903) (hn:(n:Int)+cnt (gapsF s.es (max (off:Int) s.tk) ((off:Int)+(b.length:Int)))≤1152921504606846976)
  (hx:Rd w w.heap.size A b.length (bv b)) (hc:b.length≤c) (hA:0<b.length→∀ a,A=some a→a.block ∉ F) (hlt:∀ x ∈ b,x<256) (hbl:b.length≤140737488355328)
  (hr:refuseS s ((off:Int)+(b.length:Int)) fin=0) :
  Calls Try.prog 42 #[.pointer (some ⟨p,0,none⟩),.int .i64 (off:Int),.bool fin,.slice A b.length c] w fun e w'=>e=.returned (.tuple #[.int .i64 (putS s (off:Int) fin b).1,.int .i64 (putS s (off:Int) fin b).2.1])∧RcTo w w' p F (n+(cnt (gapsF s.es (max (off:Int) s.tk) ((off:Int)+(b.length:Int)))).toNat) (putS s (off:Int) fin b).2.2:=by
 obtain ⟨e,he⟩:∃ e:Int,(off:Int)+(b.length:Int)=e:=⟨_,rfl⟩
 have HRF:=Lib.hid (refuse_rc h e fin)
 rw [he] at hr
 rw [hr] at HRF
 have HRZ:=Lib.hid hr
 obtain ⟨tk,htk⟩:∃ x,s.tk=x:=⟨_,rfl⟩
 obtain ⟨g0,hg0⟩:∃ x,max (off:Int) tk=x:=⟨_,rfl⟩
 have HGA:=Lib.hid (fun q=>gaps_rc (h.drewN q) hk.len g0 e)
 obtain ⟨_,_,_,_,_,_,hc6,_⟩:=h.cells
 rw [htk] at hc6
 obtain ⟨N,hN⟩:∃ N,b.length=N:=⟨_,rfl⟩
 have hw1:IntKind.i64.wrap (4611686018427387903 - (N:Int))=4611686018427387903 - (N:Int):=IntWalk.i64_in _ (by omega)
 have hb1:¬ (off:Int)<0:=by omega
 have hb2:¬ (4611686018427387903 - (N:Int)<(off:Int)):=by omega
 have hw2:IntKind.i64.wrap ((off:Int)+(N:Int))=e:=by rw [← he,hN];exact IntWalk.i64_in _ (by omega)
 have HH:=Lib.hid h
 have HK:=Lib.hid hk
 have HX:=Lib.hid hx
 have HAF:=Lib.hid hA
 have HL:=Lib.hid hlt
 have HE:=Lib.hid he
 have HTK:=Lib.hid htk
 have HG0:=Lib.hid hg0
 have HHN:=Lib.hid hN
 have HTO:=Lib.hid hto
 have HCN:=Lib.hid hn
 have HC:=Lib.hid hc
 have HBL:=Lib.hid hbl
 obtain ⟨gs,hgs⟩:∃ x,gapsF s.es g0 e=x:=⟨_,rfl⟩
 rw [hgs] at HGA
 have HGS:=Lib.hid hgs
 have HFR:Hid (cnt (gapsF s.es (max (off:Int) s.tk) ((off:Int)+(b.length:Int)))=cnt gs):=by show cnt (gapsF s.es (max (off:Int) s.tk) ((off:Int)+(b.length:Int)))=_;rw [he,htk,hg0,hgs]
 have HCG:Hid ((n:Int)+cnt gs≤1152921504606846976):=by show (n:Int)+cnt gs≤_;rw [← HFR.out];exact hn
 obtain ⟨Q,hQ⟩:∃ Q,(fun e w'=>e=Ending.returned (.tuple #[.int .i64 (putS s (off:Int) fin b).1,.int .i64 (putS s (off:Int) fin b).2.1])∧RcTo w w' p F (n+(cnt (gapsF s.es (max (off:Int) s.tk) ((off:Int)+(b.length:Int)))).toNat) (putS s (off:Int) fin b).2.2)=Q:=⟨_,rfl⟩
 have HQ:=Lib.hid hQ
 rw [hQ]
 rw [hN]
 clear h hk hx hA hlt hto hn hc hbl hr he htk hN hgs hQ hg0
 have hg0':max (off:Int) tk=g0:=HG0.out
 go_enter Try.func42,Try.ntmps42
 go_wp2_with fail
 refine HRF.out.mono ?_
 rintro e' w1 ⟨rfl,hw1'⟩
 have hw1':=hw1'.symm
 subst hw1'
 go_upto_region 7 with (fail)
 have HS7:Hid (∀ W,Below w.heap.size w W→(fun W:World=>Below w.heap.size w W∧W.cell? ⟨p,6,none⟩=some (.int .i64 tk)) W):=fun W hW=>by
  obtain ⟨_,_,_,_,_,_,c6,_⟩:=(HH.out.below hW).cells
  rw [HTK.out] at c6
  exact ⟨hW,c6⟩
 refine wp_region_held_drew (S:=(fun W:World=>Below w.heap.size w W∧W.cell? ⟨p,6,none⟩=some (.int .i64 tk))) (by kernel_rfl) ?_ (fun hHeld=>?_)
 ·exact HS7.out _ ((Below.refl _ _).drew)
 refine wpAnyH_take (i:=0) (v:=?_) rfl (by kernel_rfl) (by kernel_rfl) (by kernel_rfl) (fun _ _ _ h=>h) (Or.inl ⟨by rfl,?_⟩) (by assumption) ?_
 rotate_left
 ·intro w hSw;(try dsimp only at hSw);go_simp;try with_reducible rfl
 go_simp
 refine wpAnyH_take (i:=1) (v:=?_) rfl (by kernel_rfl) (by kernel_rfl) (by kernel_rfl) (fun _ _ _ h=>h) (Or.inl ⟨by rfl,?_⟩) (by assumption) ?_
 rotate_left
 ·intro w hSw;(try dsimp only at hSw);go_simp;try with_reducible rfl
 go_simp
 refine wpAnyH_take (i:=2) (v:=?_) rfl (by kernel_rfl) (by kernel_rfl) (by kernel_rfl) (fun _ _ _ h=>h) (Or.inl ⟨by rfl,?_⟩) (by assumption) ?_
 rotate_left
 ·intro w hSw;(try dsimp only at hSw);go_simp;try with_reducible rfl
 go_simp
 refine wpAnyH_take (i:=3) (v:=?_) rfl (by kernel_rfl) (by kernel_rfl) (by kernel_rfl) (fun _ _ _ h=>h) (Or.inl ⟨by rfl,?_⟩) (by assumption) ?_
 rotate_left
 ·intro w hSw;(try dsimp only at hSw);go_simp;try with_reducible rfl
 go_simp
 refine wpAnyH_take (i:=4) (v:=?_) rfl (by kernel_rfl) (by kernel_rfl) (by kernel_rfl) (fun _ _ _ h=>h) (Or.inl ⟨by rfl,?_⟩) (by assumption) ?_
 rotate_left
 ·intro w hSw;(try dsimp only at hSw);go_simp;try with_reducible rfl
 go_simp
 refine wpAnyH_take (i:=5) (v:=?_) rfl (by kernel_rfl) (by kernel_rfl) (by kernel_rfl) (fun _ _ _ h=>h) (Or.inl ⟨by rfl,?_⟩) (by assumption) ?_
 rotate_left
 ·intro w hSw;(try dsimp only at hSw);go_simp;try with_reducible rfl
 go_simp
 refine wpAnyH_take (i:=6) (v:=?_) rfl (by kernel_rfl) (by kernel_rfl) (by kernel_rfl) (fun _ _ _ h=>h) (Or.inl ⟨by rfl,?_⟩) (by assumption) ?_
 rotate_left
 ·intro w hSw;(try dsimp only at hSw);go_simp;try with_reducible rfl
 go_simp
 refine wpAnyH_take (i:=7) (v:=?_) rfl (by kernel_rfl) (by kernel_rfl) (by kernel_rfl) (fun _ _ _ h=>h) (Or.inl ⟨by rfl,?_⟩) (by assumption) ?_
 rotate_left
 ·intro w hSw;(try dsimp only at hSw);go_simp;try with_reducible rfl
 go_simp
 refine wpAnyH_take (i:=8) (v:=?_) rfl (by kernel_rfl) (by kernel_rfl) (by kernel_rfl) (fun _ _ _ h=>h) (Or.inl ⟨by rfl,?_⟩) (by assumption) ?_
 rotate_left
 ·intro w hSw;(try dsimp only at hSw);go_simp;try with_reducible rfl
 go_simp
 refine wpAnyH_take (i:=9) (v:=?_) rfl (by kernel_rfl) (by kernel_rfl) (by kernel_rfl) (fun _ _ _ h=>h) (Or.inl ⟨by rfl,?_⟩) (by assumption) ?_
 rotate_left
 ·intro w hSw;(try dsimp only at hSw);go_simp;try with_reducible rfl
 go_simp
 refine wpAnyH_take (i:=12) (v:=?_) rfl (by kernel_rfl) (by kernel_rfl) (by kernel_rfl) (fun _ _ _ h=>h) (Or.inl ⟨by rfl,?_⟩) (by assumption) ?_
 rotate_left
 ·intro w hSw;(try dsimp only at hSw);go_simp;try with_reducible rfl
 go_simp
 refine wpAnyH_ready (rs:=[10]) (by kernel_rfl) (by simp) ?_
 refine AllReadyH.cons rfl (fun K hK=>?_) AllReadyH.nil
 go_simp
 have HGZ:=Lib.hid (HGA.out 1)
 refine HGZ.out.mono ?_
 rintro e' w2 ⟨vg,rfl,hog,hbg⟩
 obtain ⟨Ag,cg,eg,hcg,hcg2,hag,hrg⟩:=own_form hog
 subst eg
 obtain ⟨m,hm⟩:∃ m,gs.length / 2=m:=⟨_,rfl⟩
 rw [hm] at hrg hcg ⊢
 have hwb:Below w.heap.size w w2:=⟨hbg.os,hbg.tape,hbg.output,hbg.size,hbg.block⟩
 have hgp:∀ a,Ag=some a→w.heap.size≤a.block:=fun a ea=>by
  exact (hog.lt a.block (by rw [ea];rfl)).1
 have hmI:(m:Int)≤(cg:Int):=by omega
 have hmM:(m:Int)≤9223372036854775807:=by unfold maxLen at hcg2;omega
 clear hcg2
 have hpl:p<w.heap.size:=HH.out.hF p HH.out.pF
 have hdat:Rd w2 w2.heap.size A b.length (bv b):=(HX.out.below hwb (Nat.le_refl _)).more hwb.size
 have HGL:Hid (gs.length=m * 2∧Ok gs∧(∀ e' ∈ gs,g0≤e'∧e'≤e)):=by
  have h1:=ok_gaps HH.out.set.1 g0 e
  rw [HGS.out] at h1
  refine ⟨by have:=h1.2.1;omega,h1,fun e' he'=>?_⟩
  rw [← HGS.out] at he'
  have h2:=gaps_in HH.out.set.1.1 he'
  have h3:=HE.out
  have h4:=HTO.out
  have h5:=HG0.out
  have h6:=HK.out
  have h7:=HTK.out
  have h8:=h6.top
  have h9:=h6.tk
  unfold clamp at h2
  omega
 have HJ0:Hid (PutI2 w w2 p F n s off b A Ag m gs 0 off):=by
  refine ⟨?_,Nat.le_refl _,Nat.le_add_right _ _,fun i _ hi=>?_,hrg,fun _ a ea hp=>?_,hdat,fun h0 a ea hp=>?_⟩
  ·rw [Nat.mul_zero,List.take_zero,mixK_nil,show (cnt ([]:List Int)).toNat=0 from rfl]
   exact HH.out.here hwb
  ·have h1:=(HGL.out.2.2 _ (List.getElem_mem hi)).1
   rw [List.getD_eq_getElem?_getD,List.getElem?_eq_getElem hi]
   have h5:=HG0.out
   show (off:Int)≤gs[i]
   omega
  ·have:=hgp a ea;omega
  ·exact HAF.out h0 a ea (hp ▸ HH.out.pF)
 have HWB:=Lib.hid hwb
 refine hK.out _ _ ?_ (fun hHeld=>?_)
 ·exact HS7.out _ HWB.out
 clear hK K
 go_simp
 refine wpAnyH_take (i:=11) (v:=?_) rfl (by kernel_rfl) (by kernel_rfl) (by kernel_rfl) (fun _ _ _ h=>h) (Or.inl ⟨by rfl,?_⟩) (by assumption) ?_
 rotate_left
 ·intro w hSw;(try dsimp only at hSw);go_simp;try with_reducible rfl
 go_simp
 refine wpAnyH_done (by kernel_rfl) ?_ _
 clear hog hbg hag hrg hcg hgp hwb hdat HGA HGZ HS7
 go_wp2_with fail
 go_loopw [46] (fun i wr=>∃ j:Nat,j≤m∧i=.int .i64 (j:Int)∧Hid (∃ pos,PutI2 w wr p F n s off b A Ag m gs j pos)) (fun i _=>m - (intOf i).toNat)
 case atStart=>exact ⟨0,Nat.zero_le _,rfl,off,HJ0.out⟩
 case round =>
  clear HJ0
  obtain ⟨j,hj,rfl,HJ⟩:=hrel
  by_cases hlt:j<m
  ·have hltI:(j:Int)<(m:Int):=by omega
   have HJM:Hid (j+1≤m):=hlt
   obtain ⟨pos,hI⟩:=HJ.out
   have HI:=Lib.hid hI
   clear hI HJ
   obtain ⟨bg,og,hAg,hbg,hcs⟩:=HI.out.row.2 (by omega)
   subst hAg
   have hl1:2 * j+1<gs.length:=by have:=HGL.out.1;omega
   obtain ⟨x,hxx⟩:∃ x,gs.getD (2 * j) 0=x:=⟨_,rfl⟩
   obtain ⟨y,hyy⟩:∃ x,gs.getD (2 * j+1) 0=x:=⟨_,rfl⟩
   have hcx:wr.cell? ⟨bg,og+j * 2,none⟩=some (.int .i64 x):=by
    rw [show og+j * 2=og+2 * j by omega,hcs (2 * j) _ (ints_get gs _ (by omega)),hxx]
   have hcy:wr.cell? ⟨bg,og+j * 2+1,none⟩=some (.int .i64 y):=by
    rw [show og+j * 2+1=og+(2 * j+1) by omega,hcs (2 * j+1) _ (ints_get gs _ (by omega)),hyy]
   clear hcs
   have hgb:=HGL.out.2.2
   have hx1:g0≤x:=by
    rw [← hxx,List.getD_eq_getElem?_getD,List.getElem?_eq_getElem (show 2 * j<gs.length by omega)]
    exact (hgb _ (List.getElem_mem _)).1
   have hy1:y≤e:=by
    rw [← hyy,List.getD_eq_getElem?_getD,List.getElem?_eq_getElem hl1]
    exact (hgb _ (List.getElem_mem _)).2
   have hxy:x<y:=by
    rw [← hxx,← hyy]
    exact get_mono HGL.out.2.1.1 _ _ (by omega) hl1
   have hpx:(pos:Int)≤x:=by rw [← hxx];exact HI.out.hi _ (Nat.le_refl _) (by omega)
   have hg0:=HG0.out
   have hee:=HE.out
   have hto:=HTO.out
   have hnn:=HHN.out
   have hpo:=HI.out.lo
   obtain ⟨xn,hxn⟩:∃ z:Nat,x=(z:Int):=⟨x.toNat,by omega⟩
   obtain ⟨yn,hyn⟩:∃ z:Nat,y=(z:Int):=⟨y.toNat,by omega⟩
   subst hxn hyn
   obtain ⟨bx,hbx⟩:∃ z,xn - off=z:=⟨_,rfl⟩
   obtain ⟨by',hby⟩:∃ z,yn - off=z:=⟨_,rfl⟩
   have hwx:IntKind.i64.wrap ((xn:Int) - (off:Int))=(bx:Int):=by rw [IntWalk.i64_in _ (by omega)];omega
   have hwy:IntKind.i64.wrap ((yn:Int) - (off:Int))=(by':Int):=by rw [IntWalk.i64_in _ (by omega)];omega
   have hi1:(bx:Int)≤(by':Int):=by omega
   have hcc:=HC.out
   have hi2:(by':Int)≤(c:Int):=by omega
   have hi3:bx≤by':=by omega
   have hi4:by'≤c:=by omega
   have hN1:by'≤N:=by omega
   go_upto_region 10 with (fail)
   obtain ⟨wa,hwa⟩:∃ z,wr.alloc (.cells #[.int .i64 (xn:Int),.int .i64 (yn:Int)] 88)=z:=⟨_,rfl⟩
   obtain ⟨ba,hba⟩:∃ z,wr.heap.size=z:=⟨_,rfl⟩
   have hBa:Below wr.heap.size wr wa:=by rw [← hwa];exact (Below.refl _ _).alloc (Nat.le_refl _) _
   have hxc:wa.heap[ba]?=some (.cells #[.int .i64 (xn:Int),.int .i64 (yn:Int)] 88 (0,0)):=by rw [← hwa,← hba];exact heap_alloc_new wr _
   have HBA:=Lib.hid hBa
   have HXA:=Lib.hid hxc
   rw [hwa,hba]
   have HNAT:Hid (off≤pos∧pos≤xn∧xn<yn∧yn≤off+N∧xn - off=bx∧yn - off=by'):=⟨by omega,by omega,by omega,by omega,by omega,by omega⟩
   clear hwa hba hBa hcx hcy hxc hgb hx1 hy1 hpx hg0 hee hto hnn hpo hcc
   have hnat:=HNAT.out
   have x0:=cell_slot (o:=0) HXA.out rfl
   have x1:=cell_slot (o:=1) HXA.out rfl
   obtain ⟨xA,hxA⟩:∃ x,(if c=bx then A else Option.map (fun x=>x.add bx) A)=x:=⟨_,rfl⟩
   have HXA2:Hid (tailA A c bx=xA):=hxA
   refine still_tail 15 (by kernel_rfl) (by kernel_rfl) ?_
   intro wz hwz
   have hwz2:wz=wa.drewN 1:=hwz
   have y0:wz.cell? ⟨ba,0,none⟩=some (.int .i64 (xn:Int)):=by rw [hwz2];exact x0
   have y1:wz.cell? ⟨ba,1,none⟩=some (.int .i64 (yn:Int)):=by rw [hwz2];exact x1
   have HBZ:Hid (Below wr.heap.size wr wz):=by rw [hwz2];exact ⟨HBA.out.os,HBA.out.tape,HBA.out.output,HBA.out.size,HBA.out.block⟩
   clear hwz hwz2 x0 x1
   simp only [List.take_succ_cons,List.take_zero,List.drop_succ_cons,List.drop_zero]
   iterate 15 still_step
   refine wpStill_nil ?_
   have hAt:∀ z,xA=some z→∃ z',A=some z'∧z'.block=z.block:=fun z hz=>by
    rw [← HXA2.out] at hz
    unfold tailA at hz
    split at hz
    ·exact ⟨z,hz,rfl⟩
    ·cases hAA:A with
     | none=>rw [hAA] at hz;cases hz
     | some q =>
       rw [hAA] at hz
       simp only [Option.map_some,Option.some.injEq] at hz
       refine ⟨q,rfl,?_⟩
       rw [← hz]
       unfold Addr.add
       split <;> rfl
   obtain ⟨bs,hbs⟩:∃ z:List Nat,(b.drop bx).take (yn - xn)=z:=⟨_,rfl⟩
   have hbl:bs.length=by' - bx:=by rw [← hbs,List.length_take,List.length_drop];have:=HHN.out;omega
   obtain ⟨F',v0',v4',hst,hk1,hn1⟩:=HI.out.st
   have hstz:=hst.below HBZ.out
   have hxz:Rd wz wz.heap.size xA bs.length (bv bs):=by
    have h1:=((HI.out.dat.below HBZ.out (Nat.le_refl _)).more HBZ.out.size)
    have h2:=(h1.tail c bx (by have:=HHN.out;omega) HC.out).head (yn - xn) (by have:=HHN.out;omega)
    rw [HXA2.out] at h2
    rw [hbl,show by' - bx=yn - xn by omega,← hbs,bv_tk,bv_dp]
    exact h2
   have HKC:Hid (cnt (gs.take (2 * (j+1)))=cnt (gs.take (2 * j))+((yn:Int) - (xn:Int))∧0≤cnt (gs.take (2 * j))∧cnt (gs.take (2 * (j+1)))≤cnt gs):=by
    refine ⟨?_,(cnt_take_bound HGL.out.2.1 j).1,cnt_take_le HGL.out.2.1 gs.length (j+1) (by omega)⟩
    have ht:=take_pair gs j hl1
    rw [hxx,hyy] at ht
    rw [ht,cnt_snoc _ _ _ (by rw [List.length_take];omega)]
   have HRC:=run_rc hstz xn bs xA (c - bx) (by have:=HTO.out;have:=HHN.out;omega) (by have h1:=HCG.out;have h2:=HKC.out;rw [hbl];omega) hxz (by omega) (fun h0 z hz=>by
    obtain ⟨z',e1,e2⟩:=hAt z hz
    rw [← e2]
    exact HI.out.datp (by have:=HHN.out;omega) _ e1) (fun q hq=>by rw [← hbs] at hq;exact HL.out q (List.mem_of_mem_drop (List.mem_of_mem_take hq)))
   rw [hbl] at HRC
   have HRC2:=Lib.hid HRC
   have HST:=Lib.hid hstz
   have HK1:=Lib.hid hk1
   have HN1:=Lib.hid hn1
   clear HRC hst hstz hk1 hn1 hxz hAt y0 y1
   go_wp2_with fail
   refine HRC2.out.mono ?_
   rintro e' w5 ⟨rfl,ht5,hk5⟩
   have hKst:putK (mixK s.K (gs.take (2 * j)) off b) xn bs=mixK s.K (gs.take (2 * (j+1))) off b:=by
    rw [← hbs,← hbx]
    exact mixK_step s.K gs HGL.out.2.1.1 off j xn yn b hl1 hxx hyy (by have:=HI.out.lo;omega) (by omega) (by have:=HHN.out;omega)
   have HJ5:Hid (PutI2 w w5 p F n s off b A (some ⟨bg,og,none⟩) m gs (j+1) yn):=by
    refine ⟨?_,by have:=HI.out.lo;omega,by have:=HHN.out;omega,fun i hi1 hi2=>?_,?_,HI.out.rowp,?_,HI.out.datp⟩
    ·have h1:RcTo w w5 p F (n+(cnt (gs.take (2 * j))).toNat+(by' - bx)) (withK s (putK (mixK s.K (gs.take (2 * j)) off b) xn bs)):=RcTo.trans (HK1.out.trans (Kept.ofBelow [] HBZ.out) (by simp)) HN1.out ht5
     rw [hKst] at h1
     exact h1.mono (by have h2:=HKC.out;omega)
    ·rw [← hyy]
     exact Int.le_of_lt (get_mono HGL.out.2.1.1 _ _ (by omega) hi2)
    ·have h1:=((HI.out.row.below HBZ.out (Nat.le_refl _)).more HBZ.out.size)
     exact rd_kept h1 hk5 (fun h0 a ea hm=>by
      rcases List.mem_cons.1 hm with h2 | h2
      ·exact HI.out.rowp (by omega) a ea h2
      ·exact rd_map HST.out.kp h1 h0 a ea h2)
    ·have h1:=((HI.out.dat.below HBZ.out (Nat.le_refl _)).more HBZ.out.size)
     exact rd_kept h1 hk5 (fun h0 a ea hm=>by
      rcases List.mem_cons.1 hm with h2 | h2
      ·exact HI.out.datp h0 a ea h2
      ·exact rd_map HST.out.kp h1 h0 a ea h2)
   clear ht5 hk5 HRC2
   go_wp2_with fail
   go_roundw
   case rel=>exact ⟨j+1,HJM.out,by go_num,_,HJ5.out⟩
   case measure =>
    have:=HJM.out
    simp [intOf];omega
  ·obtain rfl:j=m:=by omega
   have hltI:¬ (j:Int)<(j:Int):=by omega
   obtain ⟨pos,hI⟩:=HJ.out
   have HI:=Lib.hid hI
   clear hI HJ
   go_upto_region 12 with (fail)
   obtain ⟨F',v0',v4',hst,hk1,hn1⟩:=HI.out.st
   have hgt:gs.take (2 * j)=gs:=List.take_of_length_le (by have:=HGL.out.1;omega)
   rw [hgt] at hst
   have HADD:=add_rc hst HK.out.len (off:Int) e
   have HADD2:=Lib.hid HADD
   have HK1:=Lib.hid hk1
   have HN1:=Lib.hid hn1
   clear HADD hst hk1 hn1
   go_wp2_with fail
   refine HADD2.out.mono ?_
   rintro e' w5 ⟨rfl,ht5⟩
   have ht6:RcTo w w5 p F (n+(cnt gs).toNat) ⟨turn s.es off e true,s.rm,s.rd,s.tl,s.top,s.tk,s.en,s.br,s.code,s.sure,mixK s.K gs off b⟩:=RcTo.trans HK1.out HN1.out ht5
   obtain ⟨F6,v06,v46,hst6,hk6,hn6⟩:=ht6
   obtain ⟨_,_,_,_,_,_,_,hc7,_⟩:=hst6.cells
   have hf7:=hst6.free 7
   have HST6:=Lib.hid hst6
   have HK6:=Lib.hid hk6
   have HN6:=Lib.hid hn6
   have HS2:=Lib.hid (hst6.put ⟨turn s.es off e true,s.rm,s.rd,s.tl,s.top,s.tk,s.en || fin,s.br,s.code,s.sure,mixK s.K gs off b⟩ 7 (.bool (s.en || fin)) rfl rfl rfl)
   obtain ⟨en,hen⟩:∃ x,s.en=x:=⟨_,rfl⟩
   have HEN:=Lib.hid hen
   rw [hen] at hc7 HS2
   clear hst6 hk6 hn6 ht5 HADD2 hen
   have e7:(en || fin)=true∨(en || fin)=false:=by cases en <;> cases fin <;> simp
   obtain ⟨ef,hef⟩:∃ x,(en || fin)=x:=⟨_,rfl⟩
   rw [hef] at HS2
   have HEF:=Lib.hid hef
   go_upto_region 13 with (fail)
   go_cut [] (fun wx=>wx=w5.setCell ⟨p,7,none⟩ (.bool ef))
   case first =>
    have hef:=HEF.out
    cases en
    ·obtain rfl:ef=fin:=by rw [← hef];rfl
     clear hef
     go_wp2_with fail
     go_meet
     case rel=>rfl
    ·obtain rfl:ef=true:=by rw [← hef];rfl
     clear hef
     go_wp2_with fail
     go_meet
     case rel=>rfl
   case rest =>
    clear hc7 hf7 e7
    obtain ⟨w7,hw7⟩:∃ x,w5.setCell ⟨p,7,none⟩ (.bool ef)=x:=⟨_,rfl⟩
    rw [hw7] at hcut HS2
    subst hcut
    have hk7:Kept F6 w5 wc:=by rw [← hw7];exact kept_put w5 HS2.out.pF 7 _
    have HLA:Hid (laidS s off fin b=⟨turn s.es off e true,s.rm,s.rd,s.tl,s.top,s.tk,ef,s.br,s.code,s.sure,mixK s.K gs off b⟩):=by
     show laidS s off fin b=_
     unfold laidS
     rw [HE.out,HTK.out,HG0.out,HGS.out,HEN.out,HEF.out]
    have HPE:Hid (putS s (off:Int) fin b=if b.length=0∧fin=false then (0,0,laidS s off fin b) else (upS s e,0,reachS (laidS s off fin b) e)):=by
     show putS s (off:Int) fin b=_
     unfold putS
     have h1:=HTO.out
     rw [if_neg (by omega),HE.out,if_neg (by rw [HRZ.out];simp),Int.toNat_natCast]
    rw [← HLA.out] at HS2
    have HK7:Hid (Kept F w wc):=HK6.out.trans hk7 (fun k hk=>HN6.out k hk)
    have HT7:Hid (RcTo w wc p F (n+(cnt gs).toNat) (laidS s off fin b)):=⟨F6,v06,v46,HS2.out,HK7.out,HN6.out⟩
    have HTP:Hid ((laidS s off fin b).top=s.top):=rfl
    have HRE:=Lib.hid (reach_rc HS2.out (by rw [HTP.out];exact HK.out.top) e (by have:=HE.out;have:=HTO.out;omega))
    clear hw7 hk7
    by_cases hz:N=0
    ·have hzI:((N:Int) == 0)=true:=by simp [hz]
     cases fin
     ·rw [if_pos ⟨by rw [HHN.out];exact hz,rfl⟩] at HPE
      go_wp2_with fail
      rw [← HQ.out]
      show _=_∧RcTo _ _ _ _ _ _
      rw [HPE.out,HFR.out]
      exact ⟨rfl,HT7.out⟩
     ·rw [if_neg (fun h=>by cases h.2)] at HPE
      go_wp2_with fail
      refine HRE.out.mono ?_
      rintro e' w8 ⟨rfl,ht8⟩
      have HT8:=Lib.hid (RcTo.trans HK7.out HN6.out ht8)
      go_wp2_with fail
      rw [← HQ.out]
      show _=_∧RcTo _ _ _ _ _ _
      rw [HPE.out,HFR.out]
      exact ⟨rfl,HT8.out⟩
    ·have hzI:((N:Int) == 0)=false:=by simp [hz]
     rw [if_neg (fun h=>hz (by rw [← HHN.out];exact h.1))] at HPE
     go_wp2_with fail
     refine HRE.out.mono ?_
     rintro e' w8 ⟨rfl,ht8⟩
     have HT8:=Lib.hid (RcTo.trans HK7.out HN6.out ht8)
     go_wp2_with fail
     rw [← HQ.out]
     show _=_∧RcTo _ _ _ _ _ _
     rw [HPE.out,HFR.out]
     exact ⟨rfl,HT8.out⟩
end
end Go.Proofs.Ytoahkffdoaphlaa.Re
