/- Joined texts. Conditions: as each theorem lists them. -/
import Derived.Test.YtoahkffdoaphlaaJZd
set_option linter.unusedSimpArgs false
set_option linter.unusedVariables false
set_option maxRecDepth 100000
set_option maxHeartbeats 80000000
namespace Go.Proofs.Ytoahkffdoaphlaa.Re
open Go Go.RowKit Go.Proofs.Ytoahkffdoaphlaa Go.Proofs.Ytoahkffdoaphlaa.Sp Go.Proofs.Ytoahkffdoaphlaa.Se Go.Maps
/-- The numbers lie where they are. -/
structure RsNum (s:Rs):Prop where
 top:0≤s.top∧s.top≤4611686018427387903
 tk:0≤s.tk∧s.tk≤s.top
 len:s.es.length≤8796093022208
def withK (s:Rs) (K:Nat→Nat):Rs:=⟨s.es,s.rm,s.rd,s.tl,s.top,s.tk,s.en,s.br,s.code,s.sure,K⟩
theorem bv_tk (l:List Nat) (k:Nat):bv (l.take k)=(bv l).take k:=by simp [bv]
theorem bv_dp (l:List Nat) (k:Nat):bv (l.drop k)=(bv l).drop k:=by simp [bv]
theorem mixK_nil (K:Nat→Nat) (off:Nat) (b:List Nat):mixK K [] off b=K:=by
 funext x
 unfold mixK
 rw [if_neg (by simp [mem,up,oddB])]
/-- One run more was put. -/
theorem mixK_step (K:Nat→Nat) (gs:List Int) (hs:gs.Pairwise (· < ·)) (off j x y:Nat) (b:List Nat) (h1:2 * j+1<gs.length) (hx:gs.getD (2 * j) 0=(x:Int)) (hy:gs.getD (2 * j+1) 0=(y:Int)) (ho:off≤x) (hxy:x≤y) (hb:y - off≤b.length) :
  putK (mixK K (gs.take (2 * j)) off b) x ((b.drop (x - off)).take (y - x))=mixK K (gs.take (2 * (j+1))) off b:=by
 funext z
 have ht:=take_pair gs j h1
 rw [hx,hy] at ht
 have hm:=mem_snoc (gs.take (2 * j)) (x:Int) (y:Int) (z:Int) (by rw [← ht];exact hs.sublist (List.take_sublist _ _)) (by rw [List.length_take];omega)
 unfold putK mixK
 rw [ht,hm]
 simp only [List.length_take,List.length_drop]
 have hir:inRun (z:Int) ((x:Int),(y:Int))=decide (x≤z∧z<y):=by
  unfold inRun
  rw [Bool.eq_iff_iff]
  simp only [Bool.and_eq_true,decide_eq_true_eq]
  omega
 rw [hir]
 by_cases hz:x≤z∧z<y
 ·rw [if_pos (by omega),if_pos (by simp [hz])]
  simp only [List.getD_eq_getElem?_getD,List.getElem?_take,List.getElem?_drop]
  rw [if_pos (by omega),show x - off+(z - x)=z - off by omega]
 ·rw [if_neg (by omega)]
  simp only [hz,decide_false,Bool.or_false]
section
variable {w w':World} {p:Nat} {F:List Nat} {v0 v4:Value} {n:Nat} {s:Rs}
theorem gaps_rc (h:RcIn w p F v0 v4 n s) (hl:s.es.length≤8796093022208) (f t:Int) :
  Calls Try.prog 56 #[.pointer (some ⟨p,0,none⟩),.int .i64 f,.int .i64 t] w fun e w'=>∃ v',e=.returned v'∧w'.ownsRow w.heap.size 88 2 v' ((gapsF s.es f t).length / 2) (ints (gapsF s.es f t))∧Below w.heap.size w w' :=
 gaps_any _ _ _ _ _ f t w h.setIn (by omega)
theorem add_rc (h:RcIn w p F v0 v4 n s) (hl:s.es.length≤8796093022208) (f t:Int) :
  Calls Try.prog 57 #[.pointer (some ⟨p,0,none⟩),.int .i64 f,.int .i64 t] w fun e w'=>e=.returned (.tuple #[])∧RcTo w w' p F n ⟨turn s.es f t true,s.rm,s.rd,s.tl,s.top,s.tk,s.en,s.br,s.code,s.sure,s.K⟩:=by
 refine (add_new _ _ _ _ _ f t w h.setIn (by omega)).mono ?_
 rintro e w' ⟨rfl,⟨v,h1,h2⟩,h3⟩
 exact ⟨rfl,h.toSet h3 h1 (h2.imp id fun e=>by have:some v0=some v:=e;simpa using this.symm)⟩
theorem run_rc (h:RcIn w p F v0 v4 n s) (a:Nat) (bs:List Nat) (A:Option Addr) (c:Nat) (hat:a+bs.length≤4611686018427387903) (hn:n+bs.length≤1152921504606846976)
  (hx:Rd w w.heap.size A bs.length (bv bs)) (hc:bs.length≤c) (ha:0<bs.length→∀ z,A=some z→z.block≠p) (hlt:∀ x ∈ bs,x<256) :
  Calls Try.prog 92 #[.pointer (some ⟨p,4,none⟩),.int .i64 (a:Int),.slice A bs.length c] w fun e w'=>e=.returned (.tuple #[])∧RcTo w w' p F (n+bs.length) (withK s (putK s.K a bs))∧Kept (p :: fm v4) w w':=by
 refine (put_kp h.hp (show (rcC s v0 v4)[4]?=some v4 from rfl) h.kp a bs c hat hn hx hc ha hlt).mono ?_
 rintro e w' ⟨rfl,v',h1,h2,h3,h4⟩
 exact ⟨rfl,h.toKp h1 h2 h3 h4 (set_not_map h.set h.kp),h3⟩
/-- What stands at a round of Put: j runs were put. -/
structure PutI (w wr:World) (p:Nat) (F:List Nat) (n:Nat) (s:Rs) (off:Nat) (b:List Nat) (A:Option Addr) (Ag:Option Addr) (m:Nat) (gs:List Int) (j pos:Nat):Prop where
 st:RcTo w wr p F (n+(pos - off)) (withK s (mixK s.K (gs.take (2 * j)) off b))
 lo:off≤pos
 up:pos≤off+b.length
 hi:∀ i,2 * j≤i→i<gs.length→(pos:Int)≤gs.getD i 0
 row:Rd wr wr.heap.size Ag (m * 2) (ints gs)
 rowp:0<m→∀ a,Ag=some a→a.block≠p
 dat:Rd wr wr.heap.size A b.length (bv b)
 datp:0<b.length→∀ a,A=some a→a.block≠p
theorem gaps_in {es:List Int} (h:es.Pairwise (· < ·)) {f t e:Int} (he:e ∈ gapsF es f t):clamp f≤e∧e≤clamp t:=by
 unfold gapsF at he
 split at he
 ·cases he
 ·rename_i hc
  unfold gapsG at he
  rw [mid_eq _ _ _ h (by omega)] at he
  simp only [List.mem_append,List.mem_filter,Bool.and_eq_true,decide_eq_true_eq] at he
  rcases he with (he | ⟨_,h1,h2⟩) | he
  ·split at he
   ·cases he
   ·simp only [List.mem_singleton] at he;omega
  ·omega
  ·split at he
   ·cases he
   ·simp only [List.mem_singleton] at he;omega
theorem put_ok (h:RcIn w p F v0 v4 n s) (hk:RsNum s) (off:Nat) (fin:Bool) (b:List Nat) (A:Option Addr) (c:Nat) (hto:off+b.length≤4611686018427387903) (hn:n+b.length≤1152921504606846976)
  (hx:Rd w w.heap.size A b.length (bv b)) (hc:b.length≤c) (hA:0<b.length→∀ a,A=some a→a.block ∉ F) (hlt:∀ x ∈ b,x<256) (hbl:b.length≤1099511627776)
  (hr:refuseS s ((off:Int)+(b.length:Int)) fin=0) :
  Calls Try.prog 42 #[.pointer (some ⟨p,0,none⟩),.int .i64 (off:Int),.bool fin,.slice A b.length c] w fun e w'=>e=.returned (.tuple #[.int .i64 (putS s (off:Int) fin b).1,.int .i64 (putS s (off:Int) fin b).2.1])∧RcTo w w' p F (n+b.length) (putS s (off:Int) fin b).2.2:=by
 obtain ⟨e,he⟩:∃ e:Int,(off:Int)+(b.length:Int)=e:=⟨_,rfl⟩
 have HRF:=Lib.hid (refuse_rc h e fin)
 rw [he] at hr
 rw [hr] at HRF
 have HRZ:=Lib.hid hr
 obtain ⟨tk,htk⟩:∃ x,s.tk=x:=⟨_,rfl⟩
 obtain ⟨g0,hg0⟩:∃ x,max (off:Int) tk=x:=⟨_,rfl⟩
 have HGA:=Lib.hid (fun q=>gaps_rc (h.drewN q) hk.len g0 e)
 obtain ⟨_,_,_,_,_,_,hc6,_⟩:=h.cells
 rw [htk] at hc6
 obtain ⟨N,hN⟩:∃ N,b.length=N:=⟨_,rfl⟩
 have hw1:IntKind.i64.wrap (4611686018427387903 - (N:Int))=4611686018427387903 - (N:Int):=IntWalk.i64_in _ (by omega)
 have hb1:¬ (off:Int)<0:=by omega
 have hb2:¬ (4611686018427387903 - (N:Int)<(off:Int)):=by omega
 have hw2:IntKind.i64.wrap ((off:Int)+(N:Int))=e:=by rw [← he,hN];exact IntWalk.i64_in _ (by omega)
 have HH:=Lib.hid h
 have HK:=Lib.hid hk
 have HX:=Lib.hid hx
 have HAF:=Lib.hid hA
 have HL:=Lib.hid hlt
 have HE:=Lib.hid he
 have HTK:=Lib.hid htk
 have HG0:=Lib.hid hg0
 have HHN:=Lib.hid hN
 have HTO:=Lib.hid hto
 have HCN:=Lib.hid hn
 have HC:=Lib.hid hc
 have HBL:=Lib.hid hbl
 obtain ⟨gs,hgs⟩:∃ x,gapsF s.es g0 e=x:=⟨_,rfl⟩
 rw [hgs] at HGA
 have HGS:=Lib.hid hgs
 obtain ⟨Q,hQ⟩:∃ Q,(fun e w'=>e=Ending.returned (.tuple #[.int .i64 (putS s (off:Int) fin b).1,.int .i64 (putS s (off:Int) fin b).2.1])∧RcTo w w' p F (n+b.length) (putS s (off:Int) fin b).2.2)=Q:=⟨_,rfl⟩
 have HQ:=Lib.hid hQ
 rw [hQ]
 rw [hN]
 clear h hk hx hA hlt hto hn hc hbl hr he htk hN hgs hQ hg0
 have hg0':max (off:Int) tk=g0:=HG0.out
 go_enter Try.func42,Try.ntmps42
 go_wp2_with fail
 refine HRF.out.mono ?_
 rintro e' w1 ⟨rfl,hw1'⟩
 have hw1':=hw1'.symm
 subst hw1'
 go_upto_region 7 with (fail)
 have HS7:Hid (∀ W,Below w.heap.size w W→(fun W:World=>Below w.heap.size w W∧W.cell? ⟨p,6,none⟩=some (.int .i64 tk)) W):=fun W hW=>by
  obtain ⟨_,_,_,_,_,_,c6,_⟩:=(HH.out.below hW).cells
  rw [HTK.out] at c6
  exact ⟨hW,c6⟩
 refine wp_region_held_drew (S:=(fun W:World=>Below w.heap.size w W∧W.cell? ⟨p,6,none⟩=some (.int .i64 tk))) (by kernel_rfl) ?_ (fun hHeld=>?_)
 ·exact HS7.out _ ((Below.refl _ _).drew)
 refine wpAnyH_take (i:=0) (v:=?_) rfl (by kernel_rfl) (by kernel_rfl) (by kernel_rfl) (fun _ _ _ h=>h) (Or.inl ⟨by rfl,?_⟩) (by assumption) ?_
 rotate_left
 ·intro w hSw;(try dsimp only at hSw);go_simp;try with_reducible rfl
 go_simp
 refine wpAnyH_take (i:=1) (v:=?_) rfl (by kernel_rfl) (by kernel_rfl) (by kernel_rfl) (fun _ _ _ h=>h) (Or.inl ⟨by rfl,?_⟩) (by assumption) ?_
 rotate_left
 ·intro w hSw;(try dsimp only at hSw);go_simp;try with_reducible rfl
 go_simp
 refine wpAnyH_take (i:=2) (v:=?_) rfl (by kernel_rfl) (by kernel_rfl) (by kernel_rfl) (fun _ _ _ h=>h) (Or.inl ⟨by rfl,?_⟩) (by assumption) ?_
 rotate_left
 ·intro w hSw;(try dsimp only at hSw);go_simp;try with_reducible rfl
 go_simp
 refine wpAnyH_take (i:=3) (v:=?_) rfl (by kernel_rfl) (by kernel_rfl) (by kernel_rfl) (fun _ _ _ h=>h) (Or.inl ⟨by rfl,?_⟩) (by assumption) ?_
 rotate_left
 ·intro w hSw;(try dsimp only at hSw);go_simp;try with_reducible rfl
 go_simp
 refine wpAnyH_take (i:=4) (v:=?_) rfl (by kernel_rfl) (by kernel_rfl) (by kernel_rfl) (fun _ _ _ h=>h) (Or.inl ⟨by rfl,?_⟩) (by assumption) ?_
 rotate_left
 ·intro w hSw;(try dsimp only at hSw);go_simp;try with_reducible rfl
 go_simp
 refine wpAnyH_take (i:=5) (v:=?_) rfl (by kernel_rfl) (by kernel_rfl) (by kernel_rfl) (fun _ _ _ h=>h) (Or.inl ⟨by rfl,?_⟩) (by assumption) ?_
 rotate_left
 ·intro w hSw;(try dsimp only at hSw);go_simp;try with_reducible rfl
 go_simp
 refine wpAnyH_take (i:=6) (v:=?_) rfl (by kernel_rfl) (by kernel_rfl) (by kernel_rfl) (fun _ _ _ h=>h) (Or.inl ⟨by rfl,?_⟩) (by assumption) ?_
 rotate_left
 ·intro w hSw;(try dsimp only at hSw);go_simp;try with_reducible rfl
 go_simp
 refine wpAnyH_take (i:=7) (v:=?_) rfl (by kernel_rfl) (by kernel_rfl) (by kernel_rfl) (fun _ _ _ h=>h) (Or.inl ⟨by rfl,?_⟩) (by assumption) ?_
 rotate_left
 ·intro w hSw;(try dsimp only at hSw);go_simp;try with_reducible rfl
 go_simp
 refine wpAnyH_take (i:=8) (v:=?_) rfl (by kernel_rfl) (by kernel_rfl) (by kernel_rfl) (fun _ _ _ h=>h) (Or.inl ⟨by rfl,?_⟩) (by assumption) ?_
 rotate_left
 ·intro w hSw;(try dsimp only at hSw);go_simp;try with_reducible rfl
 go_simp
 refine wpAnyH_take (i:=9) (v:=?_) rfl (by kernel_rfl) (by kernel_rfl) (by kernel_rfl) (fun _ _ _ h=>h) (Or.inl ⟨by rfl,?_⟩) (by assumption) ?_
 rotate_left
 ·intro w hSw;(try dsimp only at hSw);go_simp;try with_reducible rfl
 go_simp
 refine wpAnyH_take (i:=12) (v:=?_) rfl (by kernel_rfl) (by kernel_rfl) (by kernel_rfl) (fun _ _ _ h=>h) (Or.inl ⟨by rfl,?_⟩) (by assumption) ?_
 rotate_left
 ·intro w hSw;(try dsimp only at hSw);go_simp;try with_reducible rfl
 go_simp
 refine wpAnyH_ready (rs:=[10]) (by kernel_rfl) (by simp) ?_
 refine AllReadyH.cons rfl (fun K hK=>?_) AllReadyH.nil
 go_simp
 have HGZ:=Lib.hid (HGA.out 1)
 refine HGZ.out.mono ?_
 rintro e' w2 ⟨vg,rfl,hog,hbg⟩
 obtain ⟨Ag,cg,eg,hcg,hcg2,hag,hrg⟩:=own_form hog
 subst eg
 obtain ⟨m,hm⟩:∃ m,gs.length / 2=m:=⟨_,rfl⟩
 rw [hm] at hrg hcg ⊢
 have hwb:Below w.heap.size w w2:=⟨hbg.os,hbg.tape,hbg.output,hbg.size,hbg.block⟩
 have hgp:∀ a,Ag=some a→w.heap.size≤a.block:=fun a ea=>by
  exact (hog.lt a.block (by rw [ea];rfl)).1
 have hmI:(m:Int)≤(cg:Int):=by omega
 have hmM:(m:Int)≤9223372036854775807:=by unfold maxLen at hcg2;omega
 clear hcg2
 have hpl:p<w.heap.size:=HH.out.hF p HH.out.pF
 have hdat:Rd w2 w2.heap.size A b.length (bv b):=(HX.out.below hwb (Nat.le_refl _)).more hwb.size
 have HGL:Hid (gs.length=m * 2∧Ok gs∧(∀ e' ∈ gs,g0≤e'∧e'≤e)):=by
  have h1:=ok_gaps HH.out.set.1 g0 e
  rw [HGS.out] at h1
  refine ⟨by have:=h1.2.1;omega,h1,fun e' he'=>?_⟩
  rw [← HGS.out] at he'
  have h2:=gaps_in HH.out.set.1.1 he'
  have h3:=HE.out
  have h4:=HTO.out
  have h5:=HG0.out
  have h6:=HK.out
  have h7:=HTK.out
  have h8:=h6.top
  have h9:=h6.tk
  unfold clamp at h2
  omega
 have HJ0:Hid (PutI w w2 p F n s off b A Ag m gs 0 off):=by
  refine ⟨?_,Nat.le_refl _,Nat.le_add_right _ _,fun i _ hi=>?_,hrg,fun _ a ea hp=>?_,hdat,fun h0 a ea hp=>?_⟩
  ·rw [Nat.mul_zero,List.take_zero,mixK_nil,Nat.sub_self]
   exact HH.out.here hwb
  ·have h1:=(HGL.out.2.2 _ (List.getElem_mem hi)).1
   rw [List.getD_eq_getElem?_getD,List.getElem?_eq_getElem hi]
   have h5:=HG0.out
   show (off:Int)≤gs[i]
   omega
  ·have:=hgp a ea;omega
  ·exact HAF.out h0 a ea (hp ▸ HH.out.pF)
 have HWB:=Lib.hid hwb
 refine hK.out _ _ ?_ (fun hHeld=>?_)
 ·exact HS7.out _ HWB.out
 clear hK K
 go_simp
 refine wpAnyH_take (i:=11) (v:=?_) rfl (by kernel_rfl) (by kernel_rfl) (by kernel_rfl) (fun _ _ _ h=>h) (Or.inl ⟨by rfl,?_⟩) (by assumption) ?_
 rotate_left
 ·intro w hSw;(try dsimp only at hSw);go_simp;try with_reducible rfl
 go_simp
 refine wpAnyH_done (by kernel_rfl) ?_ _
 clear hog hbg hag hrg hcg hgp hwb hdat HGA HGZ HS7
 go_wp2_with fail
 go_loopw [46] (fun i wr=>∃ j:Nat,j≤m∧i=.int .i64 (j:Int)∧Hid (∃ pos,PutI w wr p F n s off b A Ag m gs j pos)) (fun i _=>m - (intOf i).toNat)
 case atStart=>exact ⟨0,Nat.zero_le _,rfl,off,HJ0.out⟩
 case round =>
  clear HJ0
  obtain ⟨j,hj,rfl,HJ⟩:=hrel
  by_cases hlt:j<m
  ·have hltI:(j:Int)<(m:Int):=by omega
   have HJM:Hid (j+1≤m):=hlt
   obtain ⟨pos,hI⟩:=HJ.out
   have HI:=Lib.hid hI
   clear hI HJ
   obtain ⟨bg,og,hAg,hbg,hcs⟩:=HI.out.row.2 (by omega)
   subst hAg
   have hl1:2 * j+1<gs.length:=by have:=HGL.out.1;omega
   obtain ⟨x,hxx⟩:∃ x,gs.getD (2 * j) 0=x:=⟨_,rfl⟩
   obtain ⟨y,hyy⟩:∃ x,gs.getD (2 * j+1) 0=x:=⟨_,rfl⟩
   have hcx:wr.cell? ⟨bg,og+j * 2,none⟩=some (.int .i64 x):=by
    rw [show og+j * 2=og+2 * j by omega,hcs (2 * j) _ (ints_get gs _ (by omega)),hxx]
   have hcy:wr.cell? ⟨bg,og+j * 2+1,none⟩=some (.int .i64 y):=by
    rw [show og+j * 2+1=og+(2 * j+1) by omega,hcs (2 * j+1) _ (ints_get gs _ (by omega)),hyy]
   clear hcs
   have hgb:=HGL.out.2.2
   have hx1:g0≤x:=by
    rw [← hxx,List.getD_eq_getElem?_getD,List.getElem?_eq_getElem (show 2 * j<gs.length by omega)]
    exact (hgb _ (List.getElem_mem _)).1
   have hy1:y≤e:=by
    rw [← hyy,List.getD_eq_getElem?_getD,List.getElem?_eq_getElem hl1]
    exact (hgb _ (List.getElem_mem _)).2
   have hxy:x<y:=by
    rw [← hxx,← hyy]
    exact get_mono HGL.out.2.1.1 _ _ (by omega) hl1
   have hpx:(pos:Int)≤x:=by rw [← hxx];exact HI.out.hi _ (Nat.le_refl _) (by omega)
   have hg0:=HG0.out
   have hee:=HE.out
   have hto:=HTO.out
   have hnn:=HHN.out
   have hpo:=HI.out.lo
   obtain ⟨xn,hxn⟩:∃ z:Nat,x=(z:Int):=⟨x.toNat,by omega⟩
   obtain ⟨yn,hyn⟩:∃ z:Nat,y=(z:Int):=⟨y.toNat,by omega⟩
   subst hxn hyn
   obtain ⟨bx,hbx⟩:∃ z,xn - off=z:=⟨_,rfl⟩
   obtain ⟨by',hby⟩:∃ z,yn - off=z:=⟨_,rfl⟩
   have hwx:IntKind.i64.wrap ((xn:Int) - (off:Int))=(bx:Int):=by rw [IntWalk.i64_in _ (by omega)];omega
   have hwy:IntKind.i64.wrap ((yn:Int) - (off:Int))=(by':Int):=by rw [IntWalk.i64_in _ (by omega)];omega
   have hi1:(bx:Int)≤(by':Int):=by omega
   have hcc:=HC.out
   have hi2:(by':Int)≤(c:Int):=by omega
   have hi3:bx≤by':=by omega
   have hi4:by'≤c:=by omega
   have hN1:by'≤N:=by omega
   go_upto_region 10 with (fail)
   obtain ⟨wa,hwa⟩:∃ z,wr.alloc (.cells #[.int .i64 (xn:Int),.int .i64 (yn:Int)] 88)=z:=⟨_,rfl⟩
   obtain ⟨ba,hba⟩:∃ z,wr.heap.size=z:=⟨_,rfl⟩
   have hBa:Below wr.heap.size wr wa:=by rw [← hwa];exact (Below.refl _ _).alloc (Nat.le_refl _) _
   have hxc:wa.heap[ba]?=some (.cells #[.int .i64 (xn:Int),.int .i64 (yn:Int)] 88 (0,0)):=by rw [← hwa,← hba];exact heap_alloc_new wr _
   have HBA:=Lib.hid hBa
   have HXA:=Lib.hid hxc
   rw [hwa,hba]
   have HNAT:Hid (off≤pos∧pos≤xn∧xn<yn∧yn≤off+N∧xn - off=bx∧yn - off=by'):=⟨by omega,by omega,by omega,by omega,by omega,by omega⟩
   clear hwa hba hBa hcx hcy hxc hgb hx1 hy1 hpx hg0 hee hto hnn hpo hcc
   have hnat:=HNAT.out
   have x0:=cell_slot (o:=0) HXA.out rfl
   have x1:=cell_slot (o:=1) HXA.out rfl
   obtain ⟨xA,hxA⟩:∃ x,(if c=bx then A else Option.map (fun x=>x.add bx) A)=x:=⟨_,rfl⟩
   have HXA2:Hid (tailA A c bx=xA):=hxA
   refine still_tail 15 (by kernel_rfl) (by kernel_rfl) ?_
   intro wz hwz
   have hwz2:wz=wa.drewN 1:=hwz
   have y0:wz.cell? ⟨ba,0,none⟩=some (.int .i64 (xn:Int)):=by rw [hwz2];exact x0
   have y1:wz.cell? ⟨ba,1,none⟩=some (.int .i64 (yn:Int)):=by rw [hwz2];exact x1
   have HBZ:Hid (Below wr.heap.size wr wz):=by rw [hwz2];exact ⟨HBA.out.os,HBA.out.tape,HBA.out.output,HBA.out.size,HBA.out.block⟩
   clear hwz hwz2 x0 x1
   simp only [List.take_succ_cons,List.take_zero,List.drop_succ_cons,List.drop_zero]
   iterate 15 still_step
   refine wpStill_nil ?_
   have hAt:∀ z,xA=some z→∃ z',A=some z'∧z'.block=z.block:=fun z hz=>by
    rw [← HXA2.out] at hz
    unfold tailA at hz
    split at hz
    ·exact ⟨z,hz,rfl⟩
    ·cases hAA:A with
     | none=>rw [hAA] at hz;cases hz
     | some q =>
       rw [hAA] at hz
       simp only [Option.map_some,Option.some.injEq] at hz
       refine ⟨q,rfl,?_⟩
       rw [← hz]
       unfold Addr.add
       split <;> rfl
   obtain ⟨bs,hbs⟩:∃ z:List Nat,(b.drop bx).take (yn - xn)=z:=⟨_,rfl⟩
   have hbl:bs.length=by' - bx:=by rw [← hbs,List.length_take,List.length_drop];have:=HHN.out;omega
   obtain ⟨F',v0',v4',hst,hk1,hn1⟩:=HI.out.st
   have hstz:=hst.below HBZ.out
   have hxz:Rd wz wz.heap.size xA bs.length (bv bs):=by
    have h1:=((HI.out.dat.below HBZ.out (Nat.le_refl _)).more HBZ.out.size)
    have h2:=(h1.tail c bx (by have:=HHN.out;omega) HC.out).head (yn - xn) (by have:=HHN.out;omega)
    rw [HXA2.out] at h2
    rw [hbl,show by' - bx=yn - xn by omega,← hbs,bv_tk,bv_dp]
    exact h2
   have HRC:=run_rc hstz xn bs xA (c - bx) (by have:=HTO.out;have:=HHN.out;omega) (by have:=HCN.out;have:=HHN.out;have:=HI.out.up;omega) hxz (by omega) (fun h0 z hz=>by
    obtain ⟨z',e1,e2⟩:=hAt z hz
    rw [← e2]
    exact HI.out.datp (by have:=HHN.out;omega) _ e1) (fun q hq=>by rw [← hbs] at hq;exact HL.out q (List.mem_of_mem_drop (List.mem_of_mem_take hq)))
   rw [hbl] at HRC
   have HRC2:=Lib.hid HRC
   have HST:=Lib.hid hstz
   have HK1:=Lib.hid hk1
   have HN1:=Lib.hid hn1
   clear HRC hst hstz hk1 hn1 hxz hAt y0 y1
   go_wp2_with fail
   refine HRC2.out.mono ?_
   rintro e' w5 ⟨rfl,ht5,hk5⟩
   have hKst:putK (mixK s.K (gs.take (2 * j)) off b) xn bs=mixK s.K (gs.take (2 * (j+1))) off b:=by
    rw [← hbs,← hbx]
    exact mixK_step s.K gs HGL.out.2.1.1 off j xn yn b hl1 hxx hyy (by have:=HI.out.lo;omega) (by omega) (by have:=HHN.out;omega)
   have HJ5:Hid (PutI w w5 p F n s off b A (some ⟨bg,og,none⟩) m gs (j+1) yn):=by
    refine ⟨?_,by have:=HI.out.lo;omega,by have:=HHN.out;omega,fun i hi1 hi2=>?_,?_,HI.out.rowp,?_,HI.out.datp⟩
    ·have h1:RcTo w w5 p F (n+(pos - off)+(by' - bx)) (withK s (putK (mixK s.K (gs.take (2 * j)) off b) xn bs)):=RcTo.trans (HK1.out.trans (Kept.ofBelow [] HBZ.out) (by simp)) HN1.out ht5
     rw [hKst] at h1
     exact h1.mono (by have:=HI.out.lo;omega)
    ·rw [← hyy]
     exact Int.le_of_lt (get_mono HGL.out.2.1.1 _ _ (by omega) hi2)
    ·have h1:=((HI.out.row.below HBZ.out (Nat.le_refl _)).more HBZ.out.size)
     exact rd_kept h1 hk5 (fun h0 a ea hm=>by
      rcases List.mem_cons.1 hm with h2 | h2
      ·exact HI.out.rowp (by omega) a ea h2
      ·exact rd_map HST.out.kp h1 h0 a ea h2)
    ·have h1:=((HI.out.dat.below HBZ.out (Nat.le_refl _)).more HBZ.out.size)
     exact rd_kept h1 hk5 (fun h0 a ea hm=>by
      rcases List.mem_cons.1 hm with h2 | h2
      ·exact HI.out.datp h0 a ea h2
      ·exact rd_map HST.out.kp h1 h0 a ea h2)
   clear ht5 hk5 HRC2
   go_wp2_with fail
   go_roundw
   case rel=>exact ⟨j+1,HJM.out,by go_num,_,HJ5.out⟩
   case measure =>
    have:=HJM.out
    simp [intOf];omega
  ·obtain rfl:j=m:=by omega
   have hltI:¬ (j:Int)<(j:Int):=by omega
   obtain ⟨pos,hI⟩:=HJ.out
   have HI:=Lib.hid hI
   clear hI HJ
   go_upto_region 12 with (fail)
   obtain ⟨F',v0',v4',hst,hk1,hn1⟩:=HI.out.st
   have hgt:gs.take (2 * j)=gs:=List.take_of_length_le (by have:=HGL.out.1;omega)
   rw [hgt] at hst
   have HADD:=add_rc hst HK.out.len (off:Int) e
   have HADD2:=Lib.hid HADD
   have HK1:=Lib.hid hk1
   have HN1:=Lib.hid hn1
   clear HADD hst hk1 hn1
   go_wp2_with fail
   refine HADD2.out.mono ?_
   rintro e' w5 ⟨rfl,ht5⟩
   have ht6:RcTo w w5 p F (n+N) ⟨turn s.es off e true,s.rm,s.rd,s.tl,s.top,s.tk,s.en,s.br,s.code,s.sure,mixK s.K gs off b⟩:=(RcTo.trans HK1.out HN1.out ht5).mono (by have:=HI.out.up;have:=HHN.out;have:=HI.out.lo;omega)
   obtain ⟨F6,v06,v46,hst6,hk6,hn6⟩:=ht6
   obtain ⟨_,_,_,_,_,_,_,hc7,_⟩:=hst6.cells
   have hf7:=hst6.free 7
   have HST6:=Lib.hid hst6
   have HK6:=Lib.hid hk6
   have HN6:=Lib.hid hn6
   have HS2:=Lib.hid (hst6.put ⟨turn s.es off e true,s.rm,s.rd,s.tl,s.top,s.tk,s.en || fin,s.br,s.code,s.sure,mixK s.K gs off b⟩ 7 (.bool (s.en || fin)) rfl rfl rfl)
   obtain ⟨en,hen⟩:∃ x,s.en=x:=⟨_,rfl⟩
   have HEN:=Lib.hid hen
   rw [hen] at hc7 HS2
   clear hst6 hk6 hn6 ht5 HADD2 hen
   have e7:(en || fin)=true∨(en || fin)=false:=by cases en <;> cases fin <;> simp
   obtain ⟨ef,hef⟩:∃ x,(en || fin)=x:=⟨_,rfl⟩
   rw [hef] at HS2
   have HEF:=Lib.hid hef
   go_upto_region 13 with (fail)
   go_cut [] (fun wx=>wx=w5.setCell ⟨p,7,none⟩ (.bool ef))
   case first =>
    have hef:=HEF.out
    cases en
    ·obtain rfl:ef=fin:=by rw [← hef];rfl
     clear hef
     go_wp2_with fail
     go_meet
     case rel=>rfl
    ·obtain rfl:ef=true:=by rw [← hef];rfl
     clear hef
     go_wp2_with fail
     go_meet
     case rel=>rfl
   case rest =>
    clear hc7 hf7 e7
    obtain ⟨w7,hw7⟩:∃ x,w5.setCell ⟨p,7,none⟩ (.bool ef)=x:=⟨_,rfl⟩
    rw [hw7] at hcut HS2
    subst hcut
    have hk7:Kept F6 w5 wc:=by rw [← hw7];exact kept_put w5 HS2.out.pF 7 _
    have HLA:Hid (laidS s off fin b=⟨turn s.es off e true,s.rm,s.rd,s.tl,s.top,s.tk,ef,s.br,s.code,s.sure,mixK s.K gs off b⟩):=by
     show laidS s off fin b=_
     unfold laidS
     rw [HE.out,HTK.out,HG0.out,HGS.out,HEN.out,HEF.out]
    have HPE:Hid (putS s (off:Int) fin b=if b.length=0∧fin=false then (0,0,laidS s off fin b) else (upS s e,0,reachS (laidS s off fin b) e)):=by
     show putS s (off:Int) fin b=_
     unfold putS
     have h1:=HTO.out
     rw [if_neg (by omega),HE.out,if_neg (by rw [HRZ.out];simp),Int.toNat_natCast]
    rw [← HLA.out] at HS2
    have HK7:Hid (Kept F w wc):=HK6.out.trans hk7 (fun k hk=>HN6.out k hk)
    have HT7:Hid (RcTo w wc p F (n+N) (laidS s off fin b)):=⟨F6,v06,v46,HS2.out,HK7.out,HN6.out⟩
    have HTP:Hid ((laidS s off fin b).top=s.top):=rfl
    have HRE:=Lib.hid (reach_rc HS2.out (by rw [HTP.out];exact HK.out.top) e (by have:=HE.out;have:=HTO.out;omega))
    clear hw7 hk7
    by_cases hz:N=0
    ·have hzI:((N:Int) == 0)=true:=by simp [hz]
     cases fin
     ·rw [if_pos ⟨by rw [HHN.out];exact hz,rfl⟩] at HPE
      go_wp2_with fail
      rw [← HQ.out]
      show _=_∧RcTo _ _ _ _ _ _
      rw [HPE.out,HHN.out]
      exact ⟨rfl,HT7.out⟩
     ·rw [if_neg (fun h=>by cases h.2)] at HPE
      go_wp2_with fail
      refine HRE.out.mono ?_
      rintro e' w8 ⟨rfl,ht8⟩
      have HT8:=Lib.hid (RcTo.trans HK7.out HN6.out ht8)
      go_wp2_with fail
      rw [← HQ.out]
      show _=_∧RcTo _ _ _ _ _ _
      rw [HPE.out,HHN.out]
      exact ⟨rfl,HT8.out⟩
    ·have hzI:((N:Int) == 0)=false:=by simp [hz]
     rw [if_neg (fun h=>hz (by rw [← HHN.out];exact h.1))] at HPE
     go_wp2_with fail
     refine HRE.out.mono ?_
     rintro e' w8 ⟨rfl,ht8⟩
     have HT8:=Lib.hid (RcTo.trans HK7.out HN6.out ht8)
     go_wp2_with fail
     rw [← HQ.out]
     show _=_∧RcTo _ _ _ _ _ _
     rw [HPE.out,HHN.out]
     exact ⟨rfl,HT8.out⟩
end
end Go.Proofs.Ytoahkffdoaphlaa.Re
