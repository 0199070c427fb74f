/- Joined texts. Conditions: as each theorem lists them. -/
import Derived.Test.YtoahkffdoaphlaaJPd
set_option linter.unusedSimpArgs false
set_option linter.unusedVariables false
set_option maxRecDepth 100000
set_option maxHeartbeats 80000000
namespace Go.Proofs.Ytoahkffdoaphlaa.Re
open Go Go.RowKit Go.Proofs.Ytoahkffdoaphlaa Go.Proofs.Ytoahkffdoaphlaa.Sp Go.Proofs.Ytoahkffdoaphlaa.Sp.Ref Go.Proofs.Ytoahkffdoaphlaa.Se Go.Maps
section
variable {w w':World} {q:Nat} {F G:List Nat} {v0 v4 v:Value} {r r':Rq}
theorem may_one (z:Int) (m:Bool) (h:(0≤z∧z≤4611686018427387903)↔m=true):Hid (∀ W,Calls Try.prog 52 #[.int .i64 z] W fun e w'=>e=.returned (.bool m)∧W=w'):=fun W=>by
 refine (may_any z W).mono ?_
 rintro e w' ⟨rfl,h2⟩
 refine ⟨?_,h2⟩
 have:mayB z=m:=by
  unfold mayB
  cases m with
  | true=>simpa using h.2 rfl
  | false =>
    have h3:¬ (0≤z∧z≤4611686018427387903):=fun h4=>by have:=h.1 h4;cases this
    simpa using h3
 rw [this]
theorem rbreak_arg (h:RvIn w q G v0 v4 r) (code en' sure:Int) (hb:code<0∨code > 4611686018427387903∨sure<0∨sure > en'∨en' > 4611686018427387903) :
  Calls Try.prog 41 #[.pointer (some ⟨q,0,none⟩),.int .i64 code,.int .i64 en',.int .i64 sure] w fun e w'=>e=.returned (.tuple #[.int .i64 0,.int .i64 1])∧RvTo w w' q G r:=by
 have HT:=Lib.hid (h.here (Below.refl _ _))
 clear h
 by_cases h1:0≤code∧code≤4611686018427387903
 ·have M1:=may_one code true (by simp [h1])
  by_cases h2:0≤en'∧en'≤4611686018427387903
  ·have M2:=may_one en' true (by simp [h2])
   by_cases h3:0≤sure∧sure≤4611686018427387903
   ·have M3:=may_one sure true (by simp [h3])
    have h4:en'<sure:=by omega
    clear hb h1 h2 h3
    go_enter Try.func41,Try.ntmps41
    go_wp2_with (go_at_call 52;(with_reducible first | refine (M1.out _).mono ?_ | refine (M2.out _).mono ?_ | refine (M3.out _).mono ?_);rintro e w' ⟨rfl,rfl⟩)
    go_ret2
    exact ⟨rfl,HT.out⟩
   ·have M3:=may_one sure false (by simp only [Bool.false_eq_true,iff_false];exact h3)
    clear hb h1 h2 h3
    go_enter Try.func41,Try.ntmps41
    go_wp2_with (go_at_call 52;(with_reducible first | refine (M1.out _).mono ?_ | refine (M2.out _).mono ?_ | refine (M3.out _).mono ?_);rintro e w' ⟨rfl,rfl⟩)
    go_ret2
    exact ⟨rfl,HT.out⟩
  ·have M2:=may_one en' false (by simp only [Bool.false_eq_true,iff_false];exact h2)
   have M3:=M2
   clear hb h1 h2
   go_enter Try.func41,Try.ntmps41
   go_wp2_with (go_at_call 52;(with_reducible first | refine (M1.out _).mono ?_ | refine (M2.out _).mono ?_ | refine (M3.out _).mono ?_);rintro e w' ⟨rfl,rfl⟩)
   go_ret2
   exact ⟨rfl,HT.out⟩
 ·have M1:=may_one code false (by simp only [Bool.false_eq_true,iff_false];exact h1)
  have M2:=M1
  have M3:=M1
  clear hb h1
  go_enter Try.func41,Try.ntmps41
  go_wp2_with (go_at_call 52;(with_reducible first | refine (M1.out _).mono ?_ | refine (M2.out _).mono ?_ | refine (M3.out _).mono ?_);rintro e w' ⟨rfl,rfl⟩)
  go_ret2
  exact ⟨rfl,HT.out⟩
theorem rbreak_ref (h:RvIn w q G v0 v4 r) (code en' sure:Int) (hb:¬ (code<0∨code > 4611686018427387903∨sure<0∨sure > en'∨en' > 4611686018427387903)) (hte:0≤r.en→r.en=r.top) (hr:refR r.tl r.top r.en en' true≠0) :
  Calls Try.prog 41 #[.pointer (some ⟨q,0,none⟩),.int .i64 code,.int .i64 en',.int .i64 sure] w fun e w'=>e=.returned (.tuple #[.int .i64 0,.int .i64 (refR r.tl r.top r.en en' true)])∧RvTo w w' q G r:=by
 have HT:=Lib.hid (h.here (Below.refl _ _))
 obtain ⟨_,_,_,hc3,_,hc5,hc6,_,hc8,hc9,_⟩:=h.cells
 have M1:=may_one code true (by simp only [iff_true];omega)
 have M2:=may_one en' true (by simp only [iff_true];omega)
 have M3:=may_one sure true (by simp only [iff_true];omega)
 have hse:¬ en'<sure:=by omega
 obtain ⟨tl,htl⟩:∃ x,r.tl=x:=⟨_,rfl⟩
 obtain ⟨tp,htp⟩:∃ x,r.top=x:=⟨_,rfl⟩
 obtain ⟨en,hen⟩:∃ x,r.en=x:=⟨_,rfl⟩
 rw [htl] at hc3
 rw [htp] at hc5
 rw [hen] at hc6
 rw [htp,hen] at hte
 rw [htl,htp,hen] at hr ⊢
 unfold refR at hr ⊢
 clear h htl htp hen hc8 hc9 hb
 by_cases hd1:en' > tl
 ·rw [if_pos hd1]
  have hd1':tl<en':=hd1
  clear hr hte
  go_enter Try.func41,Try.ntmps41
  go_wp2_with (go_at_call 52;(with_reducible first | refine (M1.out _).mono ?_ | refine (M2.out _).mono ?_ | refine (M3.out _).mono ?_);rintro e w' ⟨rfl,rfl⟩)
  go_ret2
  exact ⟨rfl,HT.out⟩
 ·rw [if_neg hd1] at hr ⊢
  have hd1':¬ tl<en':=hd1
  by_cases hd2:0≤en
  ·by_cases hd3:en'=en
   ·have hd5:¬ (0≤en∧en' > en):=by omega
    have hd4b:(en' == en)=true:=by simpa using hd3
    by_cases hd6:en'<tp
    ·exact absurd (hte hd2) (by omega)
    ·rw [if_neg hd5,if_neg (fun hh=>hh.2.elim (fun h2=>h2.2 hd3) hd6)] at hr
     exact absurd rfl hr
   ·have hd4b:(en' == en)=false:=by simpa using hd3
    have e:(if 0≤en∧en' > en then (8:Int) else if true=true∧((0≤en∧en'≠en)∨en'<tp) then 8 else 0)=8:=by
     split
     ·rfl
     ·rw [if_pos ⟨rfl,.inl ⟨hd2,hd3⟩⟩]
    rw [e]
    clear hr e hte
    go_enter Try.func41,Try.ntmps41
    go_wp2_with (go_at_call 52;(with_reducible first | refine (M1.out _).mono ?_ | refine (M2.out _).mono ?_ | refine (M3.out _).mono ?_);rintro e w' ⟨rfl,rfl⟩)
    go_ret2
    exact ⟨rfl,HT.out⟩
  ·by_cases hd6:en'<tp
   ·rw [if_neg (fun hh=>hd2 hh.1),if_pos ⟨rfl,.inr hd6⟩]
    clear hr hte
    go_enter Try.func41,Try.ntmps41
    go_wp2_with (go_at_call 52;(with_reducible first | refine (M1.out _).mono ?_ | refine (M2.out _).mono ?_ | refine (M3.out _).mono ?_);rintro e w' ⟨rfl,rfl⟩)
    go_ret2
    exact ⟨rfl,HT.out⟩
   ·rw [if_neg (fun hh=>hd2 hh.1),if_neg (fun hh=>hh.2.elim (fun h2=>hd2 h2.1) hd6)] at hr
    exact absurd rfl hr
/-- What Break leaves. -/
def brkR (r:Rq) (code en' sure:Int) (wh:Bool):Rq :=
 ⟨r.es,r.rm,r.rd,r.tl,r.bl,r.top+max 0 (en' - r.top),en',if wh || r.br then r.code else code,if wh then r.sure else if r.br then min r.sure sure else sure, !wh || r.br,r.tk,r.ov⟩
def whR (r:Rq):Bool:=decide (0≤r.en) && allF r.es 0 r.en && !r.br
theorem rbreak_ok (h:RvIn w q G v0 v4 r) (hi:RsOk r) (code en' sure:Int) (hb:¬ (code<0∨code > 4611686018427387903∨sure<0∨sure > en'∨en' > 4611686018427387903)) (hr:refR r.tl r.top r.en en' true=0) :
  Calls Try.prog 41 #[.pointer (some ⟨q,0,none⟩),.int .i64 code,.int .i64 en',.int .i64 sure] w fun e w'=>e=.returned (.tuple #[.int .i64 (max 0 (en' - r.top)),.int .i64 0])∧RvTo w w' q G (brkR r code en' sure (whR r)):=by
 obtain ⟨_,_,_,hc3,_,hc5,hc6,_,hc8,hc9,_⟩:=h.cells
 have M1:=may_one code true (by simp only [iff_true];omega)
 have M2:=may_one en' true (by simp only [iff_true];omega)
 have M3:=may_one sure true (by simp only [iff_true];omega)
 have hse:¬ en'<sure:=by omega
 obtain ⟨tl,htl⟩:∃ x,r.tl=x:=⟨_,rfl⟩
 obtain ⟨tp,htp⟩:∃ x,r.top=x:=⟨_,rfl⟩
 obtain ⟨en,hen⟩:∃ x,r.en=x:=⟨_,rfl⟩
 rw [htl] at hc3
 rw [htp] at hc5
 rw [hen] at hc6
 have h6:0≤en'∧en'≤4611686018427387903:=by omega
 rw [htl,htp,hen] at hr
 have hRR:¬ tl<en'∧(0≤en→en'=en)∧¬ en'<tp:=by
  unfold refR at hr
  split at hr
  ·cases hr
  ·split at hr
   ·cases hr
   ·split at hr
    ·cases hr
    ·rename_i g1 g2 g3
     refine ⟨by omega,fun g5=>?_,fun g5=>g3 ⟨rfl,.inr g5⟩⟩
     by_cases g6:en'=en
     ·exact g6
     ·exact absurd ⟨rfl,.inl ⟨g5,g6⟩⟩ g3
 obtain ⟨hd1,hd2,hd3⟩:=hRR
 obtain ⟨br,hbr⟩:∃ x,r.br=x:=⟨_,rfl⟩
 obtain ⟨su,hsu⟩:∃ x,r.sure=x:=⟨_,rfl⟩
 rw [hbr] at hc9
 rw [hsu] at hc8
 obtain ⟨al,hal⟩:∃ x,allF r.es 0 en=x:=⟨_,rfl⟩
 have HW:Hid (whR r=(decide (0≤en) && al && !br)):=by show whR r=_;unfold whR;rw [hen,hal,hbr]
 have HALL:Hid (∀ W,Below w.heap.size w W→Calls Try.prog 76 #[.pointer (some ⟨q,0,none⟩),.int .i64 0,.int .i64 en] W fun e w'=>e=.returned (.bool al)∧Below W.heap.size W w'):=fun W hW=>by
  have:=rall_rv (h.below hW) (by have:=hi.1;omega) 0 en
  rw [hal] at this
  exact this
 have HH:=Lib.hid h
 have HI:=Lib.hid hi
 have HBR:=Lib.hid hbr
 have HSU:=Lib.hid hsu
 have H6:=Lib.hid h6
 obtain ⟨wh,hwh⟩:∃ x,whR r=x:=⟨_,rfl⟩
 rw [hwh] at HW ⊢
 clear h hi htl htp hen hb hr hal hbr hsu h6 hwh
 by_cases hd7:0≤en
 ·have hd8:=hd2 hd7
  have hd8b:(en' == en)=true:=by simpa using hd8
  have hd9:¬ en<tp:=by omega
  clear hd2
  subst hd8
  cases br
  ·cases al
   ·skip
    obtain rfl:wh=false:=by rw [HW.out];simp [hd7]
    clear HW
    go_enter Try.func41,Try.ntmps41
    go_upto_region 7 with (go_at_call 52;(with_reducible first | refine (M1.out _).mono ?_ | refine (M2.out _).mono ?_ | refine (M3.out _).mono ?_);rintro e w' ⟨rfl,rfl⟩)
    have HS7:Hid (∀ W,Below w.heap.size w W→(fun W:World=>Below w.heap.size w W∧W.cell? ⟨q,6,none⟩=some (.int .i64 en')∧W.cell? ⟨q,9,none⟩=some (.bool false)) W):=fun W hW=>by
     have k:=(HH.out.below hW).cells
     refine ⟨hW,?_,?_⟩
     ·exact (hW.cell (p:=⟨q,6,none⟩) (HH.out.hG q HH.out.pG)).trans hc6
     ·exact (hW.cell (p:=⟨q,9,none⟩) (HH.out.hG q HH.out.pG)).trans hc9
    refine wp_region_held_drew (S:=(fun W:World=>Below w.heap.size w W∧W.cell? ⟨q,6,none⟩=some (.int .i64 en')∧W.cell? ⟨q,9,none⟩=some (.bool false))) (by kernel_rfl) ?_ (fun hHeld=>?_)
    ·exact HS7.out _ ((Below.refl _ _).drew)
    refine wpAnyH_take (i:=0) (v:=?_) rfl (by kernel_rfl) (by kernel_rfl) (by kernel_rfl) (fun _ _ _ h=>h) (Or.inl ⟨by rfl,?_⟩) (by assumption) ?_
    rotate_left
    ·intro w hSw;(try dsimp only at hSw);go_simp;try with_reducible rfl
    go_simp
    refine wpAnyH_take (i:=1) (v:=?_) rfl (by kernel_rfl) (by kernel_rfl) (by kernel_rfl) (fun _ _ _ h=>h) (Or.inl ⟨by rfl,?_⟩) (by assumption) ?_
    rotate_left
    ·intro w hSw;(try dsimp only at hSw);go_simp;try with_reducible rfl
    go_simp
    refine wpAnyH_take (i:=2) (v:=?_) rfl (by kernel_rfl) (by kernel_rfl) (by kernel_rfl) (fun _ _ _ h=>h) (Or.inl ⟨by rfl,?_⟩) (by assumption) ?_
    rotate_left
    ·intro w hSw;(try dsimp only at hSw);go_simp;try with_reducible rfl
    go_simp
    refine wpAnyH_take (i:=3) (v:=?_) rfl (by kernel_rfl) (by kernel_rfl) (by kernel_rfl) (fun _ _ _ h=>h) (Or.inl ⟨by rfl,?_⟩) (by assumption) ?_
    rotate_left
    ·intro w hSw;(try dsimp only at hSw);go_simp;try with_reducible rfl
    go_simp
    refine wpAnyH_take (i:=4) (v:=?_) rfl (by kernel_rfl) (by kernel_rfl) (by kernel_rfl) (fun _ _ _ h=>h) (Or.inl ⟨by rfl,?_⟩) (by assumption) ?_
    rotate_left
    ·intro w hSw;(try dsimp only at hSw);go_simp;try with_reducible rfl
    go_simp
    refine wpAnyH_take (i:=5) (v:=?_) rfl (by kernel_rfl) (by kernel_rfl) (by kernel_rfl) (fun _ _ _ h=>h) (Or.inl ⟨by rfl,?_⟩) (by assumption) ?_
    rotate_left
    ·intro w hSw;(try dsimp only at hSw);go_simp;try with_reducible rfl
    go_simp
    refine wpAnyH_take (i:=6) (v:=?_) rfl (by kernel_rfl) (by kernel_rfl) (by kernel_rfl) (fun _ _ _ h=>h) (Or.inl ⟨by rfl,?_⟩) (by assumption) ?_
    rotate_left
    ·intro w hSw;(try dsimp only at hSw);go_simp;try with_reducible rfl
    go_simp
    refine wpAnyH_take (i:=7) (v:=?_) rfl (by kernel_rfl) (by kernel_rfl) (by kernel_rfl) (fun _ _ _ h=>h) (Or.inl ⟨by rfl,?_⟩) (by assumption) ?_
    rotate_left
    ·intro w hSw;(try dsimp only at hSw);go_simp;try with_reducible rfl
    go_simp
    refine wpAnyH_take (i:=8) (v:=?_) rfl (by kernel_rfl) (by kernel_rfl) (by kernel_rfl) (fun _ _ _ h=>h) (Or.inl ⟨by rfl,?_⟩) (by assumption) ?_
    rotate_left
    ·intro w hSw;(try dsimp only at hSw);go_simp;try with_reducible rfl
    go_simp
    refine wpAnyH_take (i:=9) (v:=?_) rfl (by kernel_rfl) (by kernel_rfl) (by kernel_rfl) (fun _ _ _ h=>h) (Or.inl ⟨by rfl,?_⟩) (by assumption) ?_
    rotate_left
    ·intro w hSw;(try dsimp only at hSw);go_simp;try with_reducible rfl
    go_simp
    refine wpAnyH_take (i:=10) (v:=?_) rfl (by kernel_rfl) (by kernel_rfl) (by kernel_rfl) (fun _ _ _ h=>h) (Or.inl ⟨by rfl,?_⟩) (by assumption) ?_
    rotate_left
    ·intro w hSw;(try dsimp only at hSw);go_simp;try with_reducible rfl
    go_simp
    refine wpAnyH_take (i:=11) (v:=?_) rfl (by kernel_rfl) (by kernel_rfl) (by kernel_rfl) (fun _ _ _ h=>h) (Or.inl ⟨by rfl,?_⟩) (by assumption) ?_
    rotate_left
    ·intro w hSw;(try dsimp only at hSw);go_simp;try with_reducible rfl
    go_simp
    refine wpAnyH_take (i:=12) (v:=?_) rfl (by kernel_rfl) (by kernel_rfl) (by kernel_rfl) (fun _ _ _ h=>h) (Or.inl ⟨by rfl,?_⟩) (by assumption) ?_
    rotate_left
    ·intro w hSw;(try dsimp only at hSw);go_simp;try with_reducible rfl
    go_simp
    refine wpAnyH_ready (rs:=[13]) (by kernel_rfl) (by simp) ?_
    refine AllReadyH.cons rfl (fun K hK=>?_) AllReadyH.nil
    go_simp
    have HZ:=Lib.hid (HALL.out w (Below.refl _ _))
    refine (HALL.out _ (by exact ⟨rfl,rfl,rfl,Nat.le_refl _,fun _ _=>rfl⟩)).mono ?_
    rintro e w2 ⟨rfl,hb2⟩
    have HB2:Hid (Below w.heap.size w w2):=⟨hb2.os,hb2.tape,hb2.output,hb2.size,hb2.block⟩
    clear hb2
    refine hK.out _ _ ?_ (fun hHeld=>?_)
    ·exact HS7.out _ HB2.out
    clear hK K
    go_simp
    refine wpAnyH_take (i:=14) (v:=?_) rfl (by kernel_rfl) (by kernel_rfl) (by kernel_rfl) (fun _ _ _ h=>h) (Or.inl ⟨by rfl,?_⟩) (by assumption) ?_
    rotate_left
    ·intro w hSw;(try dsimp only at hSw);go_simp;try with_reducible rfl
    go_simp
    refine wpAnyH_take (i:=15) (v:=?_) rfl (by kernel_rfl) (by kernel_rfl) (by kernel_rfl) (fun _ _ _ h=>h) (Or.inl ⟨by rfl,?_⟩) (by assumption) ?_
    rotate_left
    ·intro w hSw;(try dsimp only at hSw);go_simp;try with_reducible rfl
    go_simp
    refine wpAnyH_take (i:=16) (v:=undef) rfl (by kernel_rfl) (by kernel_rfl) (by kernel_rfl) (fun _ _ _ h=>h) (Or.inr ⟨by rfl,rfl⟩) (by assumption) ?_
    go_simp
    refine wpAnyH_take (i:=17) (v:=undef) rfl (by kernel_rfl) (by kernel_rfl) (by kernel_rfl) (fun _ _ _ h=>h) (Or.inr ⟨by rfl,rfl⟩) (by assumption) ?_
    go_simp
    refine wpAnyH_take (i:=18) (v:=undef) rfl (by kernel_rfl) (by kernel_rfl) (by kernel_rfl) (fun _ _ _ h=>h) (Or.inr ⟨by rfl,rfl⟩) (by assumption) ?_
    go_simp
    refine wpAnyH_take (i:=19) (v:=undef) rfl (by kernel_rfl) (by kernel_rfl) (by kernel_rfl) (fun _ _ _ h=>h) (Or.inr ⟨by rfl,rfl⟩) (by assumption) ?_
    go_simp
    refine wpAnyH_take (i:=20) (v:=undef) rfl (by kernel_rfl) (by kernel_rfl) (by kernel_rfl) (fun _ _ _ h=>h) (Or.inr ⟨by rfl,rfl⟩) (by assumption) ?_
    go_simp
    refine wpAnyH_take (i:=21) (v:=?_) rfl (by kernel_rfl) (by kernel_rfl) (by kernel_rfl) (fun _ _ _ h=>h) (Or.inl ⟨by rfl,?_⟩) (by assumption) ?_
    rotate_left
    ·intro w hSw;(try dsimp only at hSw);go_simp;try with_reducible rfl
    go_simp
    refine wpAnyH_take (i:=22) (v:=?_) rfl (by kernel_rfl) (by kernel_rfl) (by kernel_rfl) (fun _ _ _ h=>h) (Or.inl ⟨by rfl,?_⟩) (by assumption) ?_
    rotate_left
    ·intro w hSw;(try dsimp only at hSw);go_simp;try with_reducible rfl
    go_simp
    refine wpAnyH_done (by kernel_rfl) ?_ _
    obtain ⟨w3,hw3⟩:∃ x,w2=x:=⟨_,rfl⟩
    clear hHeld HS7 hc3 hc5 hc6 hc8 hc9 HALL hw3
    have H2:=Lib.hid (HH.out.below HB2.out)
    have d5:=H2.out.cells.2.2.2.2.2.1
    have d8:=H2.out.cells.2.2.2.2.2.2.2.2.1
    have d9:=H2.out.cells.2.2.2.2.2.2.2.2.2.1
    rw [HSU.out] at d8
    rw [HBR.out] at d9
    have f6:=H2.out.free 6
    have f7:=H2.out.free 7
    have f8:=H2.out.free 8
    have f9:=H2.out.free 9
    have c6:=H2.out.cells.2.2.2.2.2.2.1
    have c7:=H2.out.cells.2.2.2.2.2.2.2.1
    have HE0:=Lib.hid (H2.out.put ⟨r.es,r.rm,r.rd,r.tl,r.bl,r.top,en',r.code,r.sure,r.br,r.tk,r.ov⟩ 6 (.int .i64 en') rfl rfl rfl)
    have HK0:=Lib.hid (H2.out.kput 6 (.int .i64 en'))
    have HE1:=Lib.hid (HE0.out.put ⟨r.es,r.rm,r.rd,r.tl,r.bl,r.top,en',code,r.sure,r.br,r.tk,r.ov⟩ 7 (.int .i64 code) rfl rfl rfl)
    have HK1:=Lib.hid (HK0.out.then (HE0.out.kput 7 (.int .i64 code)))
    have HE2:=Lib.hid (HE1.out.put ⟨r.es,r.rm,r.rd,r.tl,r.bl,r.top,en',code,sure,r.br,r.tk,r.ov⟩ 8 (.int .i64 sure) rfl rfl rfl)
    have HK2:=Lib.hid (HK1.out.then (HE1.out.kput 8 (.int .i64 sure)))
    have HE3:=Lib.hid (HE2.out.put ⟨r.es,r.rm,r.rd,r.tl,r.bl,r.top,en',code,sure,true,r.tk,r.ov⟩ 9 (.bool true) rfl rfl rfl)
    have HK3:=Lib.hid (HK2.out.then (HE2.out.kput 9 (.bool true)))
    have HE4:=Lib.hid (HE3.out.put ⟨r.es,r.rm,r.rd,r.tl,r.bl,r.top,en',code,sure,true,r.tk,r.ov⟩ 8 (.int .i64 sure) rfl rfl rfl)
    have HK4:=Lib.hid (HK3.out.then (HE3.out.kput 8 (.int .i64 sure)))
    have HRI:=Lib.hid (rrise_rv HE4.out (by exact HI.out.2) en' H6.out)
    have HK:=Lib.hid ((Kept.ofBelow G HB2.out).then HK4.out)
    clear HE0 HE1 HE2 HE3 HE4 HK0 HK1 HK2 HK3 HK4
    have HT:Hid (∀ W,RvTo (((((w2.setCell ⟨q,6,none⟩ (.int .i64 en')).setCell ⟨q,7,none⟩ (.int .i64 code)).setCell ⟨q,8,none⟩ (.int .i64 sure)).setCell ⟨q,9,none⟩ (.bool true)).setCell ⟨q,8,none⟩ (.int .i64 sure)) W q G (withT ⟨r.es,r.rm,r.rd,r.tl,r.bl,r.top,en',code,sure,true,r.tk,r.ov⟩ (r.top+max 0 (en' - r.top)))→RvTo w W q G (brkR r code en' sure false)):=fun W hW=>by
     have e:brkR r code en' sure false=withT ⟨r.es,r.rm,r.rd,r.tl,r.bl,r.top,en',code,sure,true,r.tk,r.ov⟩ (r.top+max 0 (en' - r.top)):=by
      unfold brkR withT
      rw [HBR.out]
      try rw [HSU.out]
      try rfl
     rw [e]
     exact RvTo.trans HK.out (fun _ hk=>.inl hk) hW
    go_wp2_with fail
    refine HRI.out.mono ?_
    rintro e w9 ⟨rfl,ht9⟩
    have HT9:=Lib.hid (HT.out _ ht9)
    go_wp2_with fail
    go_ret2
    exact ⟨rfl,HT9.out⟩
   ·skip
    obtain rfl:wh=true:=by rw [HW.out];simp [hd7]
    clear HW
    go_enter Try.func41,Try.ntmps41
    go_upto_region 7 with (go_at_call 52;(with_reducible first | refine (M1.out _).mono ?_ | refine (M2.out _).mono ?_ | refine (M3.out _).mono ?_);rintro e w' ⟨rfl,rfl⟩)
    have HS7:Hid (∀ W,Below w.heap.size w W→(fun W:World=>Below w.heap.size w W∧W.cell? ⟨q,6,none⟩=some (.int .i64 en')∧W.cell? ⟨q,9,none⟩=some (.bool false)) W):=fun W hW=>by
     have k:=(HH.out.below hW).cells
     refine ⟨hW,?_,?_⟩
     ·exact (hW.cell (p:=⟨q,6,none⟩) (HH.out.hG q HH.out.pG)).trans hc6
     ·exact (hW.cell (p:=⟨q,9,none⟩) (HH.out.hG q HH.out.pG)).trans hc9
    refine wp_region_held_drew (S:=(fun W:World=>Below w.heap.size w W∧W.cell? ⟨q,6,none⟩=some (.int .i64 en')∧W.cell? ⟨q,9,none⟩=some (.bool false))) (by kernel_rfl) ?_ (fun hHeld=>?_)
    ·exact HS7.out _ ((Below.refl _ _).drew)
    refine wpAnyH_take (i:=0) (v:=?_) rfl (by kernel_rfl) (by kernel_rfl) (by kernel_rfl) (fun _ _ _ h=>h) (Or.inl ⟨by rfl,?_⟩) (by assumption) ?_
    rotate_left
    ·intro w hSw;(try dsimp only at hSw);go_simp;try with_reducible rfl
    go_simp
    refine wpAnyH_take (i:=1) (v:=?_) rfl (by kernel_rfl) (by kernel_rfl) (by kernel_rfl) (fun _ _ _ h=>h) (Or.inl ⟨by rfl,?_⟩) (by assumption) ?_
    rotate_left
    ·intro w hSw;(try dsimp only at hSw);go_simp;try with_reducible rfl
    go_simp
    refine wpAnyH_take (i:=2) (v:=?_) rfl (by kernel_rfl) (by kernel_rfl) (by kernel_rfl) (fun _ _ _ h=>h) (Or.inl ⟨by rfl,?_⟩) (by assumption) ?_
    rotate_left
    ·intro w hSw;(try dsimp only at hSw);go_simp;try with_reducible rfl
    go_simp
    refine wpAnyH_take (i:=3) (v:=?_) rfl (by kernel_rfl) (by kernel_rfl) (by kernel_rfl) (fun _ _ _ h=>h) (Or.inl ⟨by rfl,?_⟩) (by assumption) ?_
    rotate_left
    ·intro w hSw;(try dsimp only at hSw);go_simp;try with_reducible rfl
    go_simp
    refine wpAnyH_take (i:=4) (v:=?_) rfl (by kernel_rfl) (by kernel_rfl) (by kernel_rfl) (fun _ _ _ h=>h) (Or.inl ⟨by rfl,?_⟩) (by assumption) ?_
    rotate_left
    ·intro w hSw;(try dsimp only at hSw);go_simp;try with_reducible rfl
    go_simp
    refine wpAnyH_take (i:=5) (v:=?_) rfl (by kernel_rfl) (by kernel_rfl) (by kernel_rfl) (fun _ _ _ h=>h) (Or.inl ⟨by rfl,?_⟩) (by assumption) ?_
    rotate_left
    ·intro w hSw;(try dsimp only at hSw);go_simp;try with_reducible rfl
    go_simp
    refine wpAnyH_take (i:=6) (v:=?_) rfl (by kernel_rfl) (by kernel_rfl) (by kernel_rfl) (fun _ _ _ h=>h) (Or.inl ⟨by rfl,?_⟩) (by assumption) ?_
    rotate_left
    ·intro w hSw;(try dsimp only at hSw);go_simp;try with_reducible rfl
    go_simp
    refine wpAnyH_take (i:=7) (v:=?_) rfl (by kernel_rfl) (by kernel_rfl) (by kernel_rfl) (fun _ _ _ h=>h) (Or.inl ⟨by rfl,?_⟩) (by assumption) ?_
    rotate_left
    ·intro w hSw;(try dsimp only at hSw);go_simp;try with_reducible rfl
    go_simp
    refine wpAnyH_take (i:=8) (v:=?_) rfl (by kernel_rfl) (by kernel_rfl) (by kernel_rfl) (fun _ _ _ h=>h) (Or.inl ⟨by rfl,?_⟩) (by assumption) ?_
    rotate_left
    ·intro w hSw;(try dsimp only at hSw);go_simp;try with_reducible rfl
    go_simp
    refine wpAnyH_take (i:=9) (v:=?_) rfl (by kernel_rfl) (by kernel_rfl) (by kernel_rfl) (fun _ _ _ h=>h) (Or.inl ⟨by rfl,?_⟩) (by assumption) ?_
    rotate_left
    ·intro w hSw;(try dsimp only at hSw);go_simp;try with_reducible rfl
    go_simp
    refine wpAnyH_take (i:=10) (v:=?_) rfl (by kernel_rfl) (by kernel_rfl) (by kernel_rfl) (fun _ _ _ h=>h) (Or.inl ⟨by rfl,?_⟩) (by assumption) ?_
    rotate_left
    ·intro w hSw;(try dsimp only at hSw);go_simp;try with_reducible rfl
    go_simp
    refine wpAnyH_take (i:=11) (v:=?_) rfl (by kernel_rfl) (by kernel_rfl) (by kernel_rfl) (fun _ _ _ h=>h) (Or.inl ⟨by rfl,?_⟩) (by assumption) ?_
    rotate_left
    ·intro w hSw;(try dsimp only at hSw);go_simp;try with_reducible rfl
    go_simp
    refine wpAnyH_take (i:=12) (v:=?_) rfl (by kernel_rfl) (by kernel_rfl) (by kernel_rfl) (fun _ _ _ h=>h) (Or.inl ⟨by rfl,?_⟩) (by assumption) ?_
    rotate_left
    ·intro w hSw;(try dsimp only at hSw);go_simp;try with_reducible rfl
    go_simp
    refine wpAnyH_ready (rs:=[13]) (by kernel_rfl) (by simp) ?_
    refine AllReadyH.cons rfl (fun K hK=>?_) AllReadyH.nil
    go_simp
    have HZ:=Lib.hid (HALL.out w (Below.refl _ _))
    refine (HALL.out _ (by exact ⟨rfl,rfl,rfl,Nat.le_refl _,fun _ _=>rfl⟩)).mono ?_
    rintro e w2 ⟨rfl,hb2⟩
    have HB2:Hid (Below w.heap.size w w2):=⟨hb2.os,hb2.tape,hb2.output,hb2.size,hb2.block⟩
    clear hb2
    refine hK.out _ _ ?_ (fun hHeld=>?_)
    ·exact HS7.out _ HB2.out
    clear hK K
    go_simp
    refine wpAnyH_take (i:=14) (v:=?_) rfl (by kernel_rfl) (by kernel_rfl) (by kernel_rfl) (fun _ _ _ h=>h) (Or.inl ⟨by rfl,?_⟩) (by assumption) ?_
    rotate_left
    ·intro w hSw;(try dsimp only at hSw);go_simp;try with_reducible rfl
    go_simp
    refine wpAnyH_take (i:=15) (v:=?_) rfl (by kernel_rfl) (by kernel_rfl) (by kernel_rfl) (fun _ _ _ h=>h) (Or.inl ⟨by rfl,?_⟩) (by assumption) ?_
    rotate_left
    ·intro w hSw;(try dsimp only at hSw);go_simp;try with_reducible rfl
    go_simp
    refine wpAnyH_take (i:=16) (v:=?_) rfl (by kernel_rfl) (by kernel_rfl) (by kernel_rfl) (fun _ _ _ h=>h) (Or.inl ⟨by rfl,?_⟩) (by assumption) ?_
    rotate_left
    ·intro w hSw;(try dsimp only at hSw);go_simp;try with_reducible rfl
    go_simp
    refine wpAnyH_take (i:=17) (v:=?_) rfl (by kernel_rfl) (by kernel_rfl) (by kernel_rfl) (fun _ _ _ h=>h) (Or.inl ⟨by rfl,?_⟩) (by assumption) ?_
    rotate_left
    ·intro w hSw;(try dsimp only at hSw);go_simp;try with_reducible rfl
    go_simp
    refine wpAnyH_take (i:=18) (v:=?_) rfl (by kernel_rfl) (by kernel_rfl) (by kernel_rfl) (fun _ _ _ h=>h) (Or.inl ⟨by rfl,?_⟩) (by assumption) ?_
    rotate_left
    ·intro w hSw;(try dsimp only at hSw);go_simp;try with_reducible rfl
    go_simp
    refine wpAnyH_take (i:=19) (v:=?_) rfl (by kernel_rfl) (by kernel_rfl) (by kernel_rfl) (fun _ _ _ h=>h) (Or.inl ⟨by rfl,?_⟩) (by assumption) ?_
    rotate_left
    ·intro w hSw;(try dsimp only at hSw);go_simp;try with_reducible rfl
    go_simp
    refine wpAnyH_take (i:=20) (v:=?_) rfl (by kernel_rfl) (by kernel_rfl) (by kernel_rfl) (fun _ _ _ h=>h) (Or.inl ⟨by rfl,?_⟩) (by assumption) ?_
    rotate_left
    ·intro w hSw;(try dsimp only at hSw);go_simp;try with_reducible rfl
    go_simp
    refine wpAnyH_take (i:=21) (v:=?_) rfl (by kernel_rfl) (by kernel_rfl) (by kernel_rfl) (fun _ _ _ h=>h) (Or.inl ⟨by rfl,?_⟩) (by assumption) ?_
    rotate_left
    ·intro w hSw;(try dsimp only at hSw);go_simp;try with_reducible rfl
    go_simp
    refine wpAnyH_take (i:=22) (v:=?_) rfl (by kernel_rfl) (by kernel_rfl) (by kernel_rfl) (fun _ _ _ h=>h) (Or.inl ⟨by rfl,?_⟩) (by assumption) ?_
    rotate_left
    ·intro w hSw;(try dsimp only at hSw);go_simp;try with_reducible rfl
    go_simp
    refine wpAnyH_done (by kernel_rfl) ?_ _
    obtain ⟨w3,hw3⟩:∃ x,w2=x:=⟨_,rfl⟩
    clear hHeld HS7 hc3 hc5 hc6 hc8 hc9 HALL hw3
    have H2:=Lib.hid (HH.out.below HB2.out)
    have d5:=H2.out.cells.2.2.2.2.2.1
    have d8:=H2.out.cells.2.2.2.2.2.2.2.2.1
    have d9:=H2.out.cells.2.2.2.2.2.2.2.2.2.1
    rw [HSU.out] at d8
    rw [HBR.out] at d9
    have f6:=H2.out.free 6
    have f7:=H2.out.free 7
    have f8:=H2.out.free 8
    have f9:=H2.out.free 9
    have c6:=H2.out.cells.2.2.2.2.2.2.1
    have c7:=H2.out.cells.2.2.2.2.2.2.2.1
    have HE0:=Lib.hid (H2.out.put ⟨r.es,r.rm,r.rd,r.tl,r.bl,r.top,en',r.code,r.sure,r.br,r.tk,r.ov⟩ 6 (.int .i64 en') rfl rfl rfl)
    have HK0:=Lib.hid (H2.out.kput 6 (.int .i64 en'))
    have HRI:=Lib.hid (rrise_rv HE0.out (by exact HI.out.2) en' H6.out)
    have HK:=Lib.hid ((Kept.ofBelow G HB2.out).then HK0.out)
    clear HE0 HK0
    have HT:Hid (∀ W,RvTo (w2.setCell ⟨q,6,none⟩ (.int .i64 en')) W q G (withT ⟨r.es,r.rm,r.rd,r.tl,r.bl,r.top,en',r.code,r.sure,r.br,r.tk,r.ov⟩ (r.top+max 0 (en' - r.top)))→RvTo w W q G (brkR r code en' sure true)):=fun W hW=>by
     have e:brkR r code en' sure true=withT ⟨r.es,r.rm,r.rd,r.tl,r.bl,r.top,en',r.code,r.sure,r.br,r.tk,r.ov⟩ (r.top+max 0 (en' - r.top)):=by
      unfold brkR withT
      rw [HBR.out]
      try rw [HSU.out]
      try rfl
     rw [e]
     exact RvTo.trans HK.out (fun _ hk=>.inl hk) hW
    go_wp2_with fail
    refine HRI.out.mono ?_
    rintro e w9 ⟨rfl,ht9⟩
    have HT9:=Lib.hid (HT.out _ ht9)
    go_wp2_with fail
    go_ret2
    exact ⟨rfl,HT9.out⟩
  ·cases al
   ·skip
    obtain rfl:wh=false:=by rw [HW.out];simp [hd7]
    clear HW
    go_enter Try.func41,Try.ntmps41
    go_upto_region 7 with (go_at_call 52;(with_reducible first | refine (M1.out _).mono ?_ | refine (M2.out _).mono ?_ | refine (M3.out _).mono ?_);rintro e w' ⟨rfl,rfl⟩)
    have HS7:Hid (∀ W,Below w.heap.size w W→(fun W:World=>Below w.heap.size w W∧W.cell? ⟨q,6,none⟩=some (.int .i64 en')∧W.cell? ⟨q,9,none⟩=some (.bool true)) W):=fun W hW=>by
     have k:=(HH.out.below hW).cells
     refine ⟨hW,?_,?_⟩
     ·exact (hW.cell (p:=⟨q,6,none⟩) (HH.out.hG q HH.out.pG)).trans hc6
     ·exact (hW.cell (p:=⟨q,9,none⟩) (HH.out.hG q HH.out.pG)).trans hc9
    refine wp_region_held_drew (S:=(fun W:World=>Below w.heap.size w W∧W.cell? ⟨q,6,none⟩=some (.int .i64 en')∧W.cell? ⟨q,9,none⟩=some (.bool true))) (by kernel_rfl) ?_ (fun hHeld=>?_)
    ·exact HS7.out _ ((Below.refl _ _).drew)
    refine wpAnyH_take (i:=0) (v:=?_) rfl (by kernel_rfl) (by kernel_rfl) (by kernel_rfl) (fun _ _ _ h=>h) (Or.inl ⟨by rfl,?_⟩) (by assumption) ?_
    rotate_left
    ·intro w hSw;(try dsimp only at hSw);go_simp;try with_reducible rfl
    go_simp
    refine wpAnyH_take (i:=1) (v:=?_) rfl (by kernel_rfl) (by kernel_rfl) (by kernel_rfl) (fun _ _ _ h=>h) (Or.inl ⟨by rfl,?_⟩) (by assumption) ?_
    rotate_left
    ·intro w hSw;(try dsimp only at hSw);go_simp;try with_reducible rfl
    go_simp
    refine wpAnyH_take (i:=2) (v:=?_) rfl (by kernel_rfl) (by kernel_rfl) (by kernel_rfl) (fun _ _ _ h=>h) (Or.inl ⟨by rfl,?_⟩) (by assumption) ?_
    rotate_left
    ·intro w hSw;(try dsimp only at hSw);go_simp;try with_reducible rfl
    go_simp
    refine wpAnyH_take (i:=3) (v:=?_) rfl (by kernel_rfl) (by kernel_rfl) (by kernel_rfl) (fun _ _ _ h=>h) (Or.inl ⟨by rfl,?_⟩) (by assumption) ?_
    rotate_left
    ·intro w hSw;(try dsimp only at hSw);go_simp;try with_reducible rfl
    go_simp
    refine wpAnyH_take (i:=4) (v:=?_) rfl (by kernel_rfl) (by kernel_rfl) (by kernel_rfl) (fun _ _ _ h=>h) (Or.inl ⟨by rfl,?_⟩) (by assumption) ?_
    rotate_left
    ·intro w hSw;(try dsimp only at hSw);go_simp;try with_reducible rfl
    go_simp
    refine wpAnyH_take (i:=5) (v:=?_) rfl (by kernel_rfl) (by kernel_rfl) (by kernel_rfl) (fun _ _ _ h=>h) (Or.inl ⟨by rfl,?_⟩) (by assumption) ?_
    rotate_left
    ·intro w hSw;(try dsimp only at hSw);go_simp;try with_reducible rfl
    go_simp
    refine wpAnyH_take (i:=6) (v:=?_) rfl (by kernel_rfl) (by kernel_rfl) (by kernel_rfl) (fun _ _ _ h=>h) (Or.inl ⟨by rfl,?_⟩) (by assumption) ?_
    rotate_left
    ·intro w hSw;(try dsimp only at hSw);go_simp;try with_reducible rfl
    go_simp
    refine wpAnyH_take (i:=7) (v:=?_) rfl (by kernel_rfl) (by kernel_rfl) (by kernel_rfl) (fun _ _ _ h=>h) (Or.inl ⟨by rfl,?_⟩) (by assumption) ?_
    rotate_left
    ·intro w hSw;(try dsimp only at hSw);go_simp;try with_reducible rfl
    go_simp
    refine wpAnyH_take (i:=8) (v:=?_) rfl (by kernel_rfl) (by kernel_rfl) (by kernel_rfl) (fun _ _ _ h=>h) (Or.inl ⟨by rfl,?_⟩) (by assumption) ?_
    rotate_left
    ·intro w hSw;(try dsimp only at hSw);go_simp;try with_reducible rfl
    go_simp
    refine wpAnyH_take (i:=9) (v:=?_) rfl (by kernel_rfl) (by kernel_rfl) (by kernel_rfl) (fun _ _ _ h=>h) (Or.inl ⟨by rfl,?_⟩) (by assumption) ?_
    rotate_left
    ·intro w hSw;(try dsimp only at hSw);go_simp;try with_reducible rfl
    go_simp
    refine wpAnyH_take (i:=10) (v:=?_) rfl (by kernel_rfl) (by kernel_rfl) (by kernel_rfl) (fun _ _ _ h=>h) (Or.inl ⟨by rfl,?_⟩) (by assumption) ?_
    rotate_left
    ·intro w hSw;(try dsimp only at hSw);go_simp;try with_reducible rfl
    go_simp
    refine wpAnyH_take (i:=11) (v:=?_) rfl (by kernel_rfl) (by kernel_rfl) (by kernel_rfl) (fun _ _ _ h=>h) (Or.inl ⟨by rfl,?_⟩) (by assumption) ?_
    rotate_left
    ·intro w hSw;(try dsimp only at hSw);go_simp;try with_reducible rfl
    go_simp
    refine wpAnyH_take (i:=12) (v:=?_) rfl (by kernel_rfl) (by kernel_rfl) (by kernel_rfl) (fun _ _ _ h=>h) (Or.inl ⟨by rfl,?_⟩) (by assumption) ?_
    rotate_left
    ·intro w hSw;(try dsimp only at hSw);go_simp;try with_reducible rfl
    go_simp
    refine wpAnyH_ready (rs:=[13]) (by kernel_rfl) (by simp) ?_
    refine AllReadyH.cons rfl (fun K hK=>?_) AllReadyH.nil
    go_simp
    have HZ:=Lib.hid (HALL.out w (Below.refl _ _))
    refine (HALL.out _ (by exact ⟨rfl,rfl,rfl,Nat.le_refl _,fun _ _=>rfl⟩)).mono ?_
    rintro e w2 ⟨rfl,hb2⟩
    have HB2:Hid (Below w.heap.size w w2):=⟨hb2.os,hb2.tape,hb2.output,hb2.size,hb2.block⟩
    clear hb2
    refine hK.out _ _ ?_ (fun hHeld=>?_)
    ·exact HS7.out _ HB2.out
    clear hK K
    go_simp
    refine wpAnyH_take (i:=14) (v:=?_) rfl (by kernel_rfl) (by kernel_rfl) (by kernel_rfl) (fun _ _ _ h=>h) (Or.inl ⟨by rfl,?_⟩) (by assumption) ?_
    rotate_left
    ·intro w hSw;(try dsimp only at hSw);go_simp;try with_reducible rfl
    go_simp
    refine wpAnyH_take (i:=15) (v:=?_) rfl (by kernel_rfl) (by kernel_rfl) (by kernel_rfl) (fun _ _ _ h=>h) (Or.inl ⟨by rfl,?_⟩) (by assumption) ?_
    rotate_left
    ·intro w hSw;(try dsimp only at hSw);go_simp;try with_reducible rfl
    go_simp
    refine wpAnyH_take (i:=16) (v:=undef) rfl (by kernel_rfl) (by kernel_rfl) (by kernel_rfl) (fun _ _ _ h=>h) (Or.inr ⟨by rfl,rfl⟩) (by assumption) ?_
    go_simp
    refine wpAnyH_take (i:=17) (v:=undef) rfl (by kernel_rfl) (by kernel_rfl) (by kernel_rfl) (fun _ _ _ h=>h) (Or.inr ⟨by rfl,rfl⟩) (by assumption) ?_
    go_simp
    refine wpAnyH_take (i:=18) (v:=undef) rfl (by kernel_rfl) (by kernel_rfl) (by kernel_rfl) (fun _ _ _ h=>h) (Or.inr ⟨by rfl,rfl⟩) (by assumption) ?_
    go_simp
    refine wpAnyH_take (i:=19) (v:=undef) rfl (by kernel_rfl) (by kernel_rfl) (by kernel_rfl) (fun _ _ _ h=>h) (Or.inr ⟨by rfl,rfl⟩) (by assumption) ?_
    go_simp
    refine wpAnyH_take (i:=20) (v:=undef) rfl (by kernel_rfl) (by kernel_rfl) (by kernel_rfl) (fun _ _ _ h=>h) (Or.inr ⟨by rfl,rfl⟩) (by assumption) ?_
    go_simp
    refine wpAnyH_take (i:=21) (v:=?_) rfl (by kernel_rfl) (by kernel_rfl) (by kernel_rfl) (fun _ _ _ h=>h) (Or.inl ⟨by rfl,?_⟩) (by assumption) ?_
    rotate_left
    ·intro w hSw;(try dsimp only at hSw);go_simp;try with_reducible rfl
    go_simp
    refine wpAnyH_take (i:=22) (v:=?_) rfl (by kernel_rfl) (by kernel_rfl) (by kernel_rfl) (fun _ _ _ h=>h) (Or.inl ⟨by rfl,?_⟩) (by assumption) ?_
    rotate_left
    ·intro w hSw;(try dsimp only at hSw);go_simp;try with_reducible rfl
    go_simp
    refine wpAnyH_done (by kernel_rfl) ?_ _
    obtain ⟨w3,hw3⟩:∃ x,w2=x:=⟨_,rfl⟩
    clear hHeld HS7 hc3 hc5 hc6 hc8 hc9 HALL hw3
    have H2:=Lib.hid (HH.out.below HB2.out)
    have d5:=H2.out.cells.2.2.2.2.2.1
    have d8:=H2.out.cells.2.2.2.2.2.2.2.2.1
    have d9:=H2.out.cells.2.2.2.2.2.2.2.2.2.1
    rw [HSU.out] at d8
    rw [HBR.out] at d9
    have f6:=H2.out.free 6
    have f7:=H2.out.free 7
    have f8:=H2.out.free 8
    have f9:=H2.out.free 9
    have c6:=H2.out.cells.2.2.2.2.2.2.1
    have c7:=H2.out.cells.2.2.2.2.2.2.2.1
    have HE0:=Lib.hid (H2.out.put ⟨r.es,r.rm,r.rd,r.tl,r.bl,r.top,en',r.code,r.sure,r.br,r.tk,r.ov⟩ 6 (.int .i64 en') rfl rfl rfl)
    have HK0:=Lib.hid (H2.out.kput 6 (.int .i64 en'))
    have HE1:=Lib.hid (HE0.out.put ⟨r.es,r.rm,r.rd,r.tl,r.bl,r.top,en',r.code,r.sure,true,r.tk,r.ov⟩ 9 (.bool true) rfl rfl rfl)
    have HK1:=Lib.hid (HK0.out.then (HE0.out.kput 9 (.bool true)))
    have HE2:=Lib.hid (HE1.out.put ⟨r.es,r.rm,r.rd,r.tl,r.bl,r.top,en',r.code,min su sure,true,r.tk,r.ov⟩ 8 (.int .i64 (min su sure)) rfl rfl rfl)
    have HK2:=Lib.hid (HK1.out.then (HE1.out.kput 8 (.int .i64 (min su sure))))
    have HRI:=Lib.hid (rrise_rv HE2.out (by exact HI.out.2) en' H6.out)
    have HK:=Lib.hid ((Kept.ofBelow G HB2.out).then HK2.out)
    clear HE0 HE1 HE2 HK0 HK1 HK2
    have HT:Hid (∀ W,RvTo (((w2.setCell ⟨q,6,none⟩ (.int .i64 en')).setCell ⟨q,9,none⟩ (.bool true)).setCell ⟨q,8,none⟩ (.int .i64 (min su sure))) W q G (withT ⟨r.es,r.rm,r.rd,r.tl,r.bl,r.top,en',r.code,min su sure,true,r.tk,r.ov⟩ (r.top+max 0 (en' - r.top)))→RvTo w W q G (brkR r code en' sure false)):=fun W hW=>by
     have e:brkR r code en' sure false=withT ⟨r.es,r.rm,r.rd,r.tl,r.bl,r.top,en',r.code,min su sure,true,r.tk,r.ov⟩ (r.top+max 0 (en' - r.top)):=by
      unfold brkR withT
      rw [HBR.out]
      try rw [HSU.out]
      try rfl
     rw [e]
     exact RvTo.trans HK.out (fun _ hk=>.inl hk) hW
    go_wp2_with fail
    refine HRI.out.mono ?_
    rintro e w9 ⟨rfl,ht9⟩
    have HT9:=Lib.hid (HT.out _ ht9)
    go_wp2_with fail
    go_ret2
    exact ⟨rfl,HT9.out⟩
   ·skip
    obtain rfl:wh=false:=by rw [HW.out];simp [hd7]
    clear HW
    go_enter Try.func41,Try.ntmps41
    go_upto_region 7 with (go_at_call 52;(with_reducible first | refine (M1.out _).mono ?_ | refine (M2.out _).mono ?_ | refine (M3.out _).mono ?_);rintro e w' ⟨rfl,rfl⟩)
    have HS7:Hid (∀ W,Below w.heap.size w W→(fun W:World=>Below w.heap.size w W∧W.cell? ⟨q,6,none⟩=some (.int .i64 en')∧W.cell? ⟨q,9,none⟩=some (.bool true)) W):=fun W hW=>by
     have k:=(HH.out.below hW).cells
     refine ⟨hW,?_,?_⟩
     ·exact (hW.cell (p:=⟨q,6,none⟩) (HH.out.hG q HH.out.pG)).trans hc6
     ·exact (hW.cell (p:=⟨q,9,none⟩) (HH.out.hG q HH.out.pG)).trans hc9
    refine wp_region_held_drew (S:=(fun W:World=>Below w.heap.size w W∧W.cell? ⟨q,6,none⟩=some (.int .i64 en')∧W.cell? ⟨q,9,none⟩=some (.bool true))) (by kernel_rfl) ?_ (fun hHeld=>?_)
    ·exact HS7.out _ ((Below.refl _ _).drew)
    refine wpAnyH_take (i:=0) (v:=?_) rfl (by kernel_rfl) (by kernel_rfl) (by kernel_rfl) (fun _ _ _ h=>h) (Or.inl ⟨by rfl,?_⟩) (by assumption) ?_
    rotate_left
    ·intro w hSw;(try dsimp only at hSw);go_simp;try with_reducible rfl
    go_simp
    refine wpAnyH_take (i:=1) (v:=?_) rfl (by kernel_rfl) (by kernel_rfl) (by kernel_rfl) (fun _ _ _ h=>h) (Or.inl ⟨by rfl,?_⟩) (by assumption) ?_
    rotate_left
    ·intro w hSw;(try dsimp only at hSw);go_simp;try with_reducible rfl
    go_simp
    refine wpAnyH_take (i:=2) (v:=?_) rfl (by kernel_rfl) (by kernel_rfl) (by kernel_rfl) (fun _ _ _ h=>h) (Or.inl ⟨by rfl,?_⟩) (by assumption) ?_
    rotate_left
    ·intro w hSw;(try dsimp only at hSw);go_simp;try with_reducible rfl
    go_simp
    refine wpAnyH_take (i:=3) (v:=?_) rfl (by kernel_rfl) (by kernel_rfl) (by kernel_rfl) (fun _ _ _ h=>h) (Or.inl ⟨by rfl,?_⟩) (by assumption) ?_
    rotate_left
    ·intro w hSw;(try dsimp only at hSw);go_simp;try with_reducible rfl
    go_simp
    refine wpAnyH_take (i:=4) (v:=?_) rfl (by kernel_rfl) (by kernel_rfl) (by kernel_rfl) (fun _ _ _ h=>h) (Or.inl ⟨by rfl,?_⟩) (by assumption) ?_
    rotate_left
    ·intro w hSw;(try dsimp only at hSw);go_simp;try with_reducible rfl
    go_simp
    refine wpAnyH_take (i:=5) (v:=?_) rfl (by kernel_rfl) (by kernel_rfl) (by kernel_rfl) (fun _ _ _ h=>h) (Or.inl ⟨by rfl,?_⟩) (by assumption) ?_
    rotate_left
    ·intro w hSw;(try dsimp only at hSw);go_simp;try with_reducible rfl
    go_simp
    refine wpAnyH_take (i:=6) (v:=?_) rfl (by kernel_rfl) (by kernel_rfl) (by kernel_rfl) (fun _ _ _ h=>h) (Or.inl ⟨by rfl,?_⟩) (by assumption) ?_
    rotate_left
    ·intro w hSw;(try dsimp only at hSw);go_simp;try with_reducible rfl
    go_simp
    refine wpAnyH_take (i:=7) (v:=?_) rfl (by kernel_rfl) (by kernel_rfl) (by kernel_rfl) (fun _ _ _ h=>h) (Or.inl ⟨by rfl,?_⟩) (by assumption) ?_
    rotate_left
    ·intro w hSw;(try dsimp only at hSw);go_simp;try with_reducible rfl
    go_simp
    refine wpAnyH_take (i:=8) (v:=?_) rfl (by kernel_rfl) (by kernel_rfl) (by kernel_rfl) (fun _ _ _ h=>h) (Or.inl ⟨by rfl,?_⟩) (by assumption) ?_
    rotate_left
    ·intro w hSw;(try dsimp only at hSw);go_simp;try with_reducible rfl
    go_simp
    refine wpAnyH_take (i:=9) (v:=?_) rfl (by kernel_rfl) (by kernel_rfl) (by kernel_rfl) (fun _ _ _ h=>h) (Or.inl ⟨by rfl,?_⟩) (by assumption) ?_
    rotate_left
    ·intro w hSw;(try dsimp only at hSw);go_simp;try with_reducible rfl
    go_simp
    refine wpAnyH_take (i:=10) (v:=?_) rfl (by kernel_rfl) (by kernel_rfl) (by kernel_rfl) (fun _ _ _ h=>h) (Or.inl ⟨by rfl,?_⟩) (by assumption) ?_
    rotate_left
    ·intro w hSw;(try dsimp only at hSw);go_simp;try with_reducible rfl
    go_simp
    refine wpAnyH_take (i:=11) (v:=?_) rfl (by kernel_rfl) (by kernel_rfl) (by kernel_rfl) (fun _ _ _ h=>h) (Or.inl ⟨by rfl,?_⟩) (by assumption) ?_
    rotate_left
    ·intro w hSw;(try dsimp only at hSw);go_simp;try with_reducible rfl
    go_simp
    refine wpAnyH_take (i:=12) (v:=?_) rfl (by kernel_rfl) (by kernel_rfl) (by kernel_rfl) (fun _ _ _ h=>h) (Or.inl ⟨by rfl,?_⟩) (by assumption) ?_
    rotate_left
    ·intro w hSw;(try dsimp only at hSw);go_simp;try with_reducible rfl
    go_simp
    refine wpAnyH_ready (rs:=[13]) (by kernel_rfl) (by simp) ?_
    refine AllReadyH.cons rfl (fun K hK=>?_) AllReadyH.nil
    go_simp
    have HZ:=Lib.hid (HALL.out w (Below.refl _ _))
    refine (HALL.out _ (by exact ⟨rfl,rfl,rfl,Nat.le_refl _,fun _ _=>rfl⟩)).mono ?_
    rintro e w2 ⟨rfl,hb2⟩
    have HB2:Hid (Below w.heap.size w w2):=⟨hb2.os,hb2.tape,hb2.output,hb2.size,hb2.block⟩
    clear hb2
    refine hK.out _ _ ?_ (fun hHeld=>?_)
    ·exact HS7.out _ HB2.out
    clear hK K
    go_simp
    refine wpAnyH_take (i:=14) (v:=?_) rfl (by kernel_rfl) (by kernel_rfl) (by kernel_rfl) (fun _ _ _ h=>h) (Or.inl ⟨by rfl,?_⟩) (by assumption) ?_
    rotate_left
    ·intro w hSw;(try dsimp only at hSw);go_simp;try with_reducible rfl
    go_simp
    refine wpAnyH_take (i:=15) (v:=?_) rfl (by kernel_rfl) (by kernel_rfl) (by kernel_rfl) (fun _ _ _ h=>h) (Or.inl ⟨by rfl,?_⟩) (by assumption) ?_
    rotate_left
    ·intro w hSw;(try dsimp only at hSw);go_simp;try with_reducible rfl
    go_simp
    refine wpAnyH_take (i:=16) (v:=?_) rfl (by kernel_rfl) (by kernel_rfl) (by kernel_rfl) (fun _ _ _ h=>h) (Or.inl ⟨by rfl,?_⟩) (by assumption) ?_
    rotate_left
    ·intro w hSw;(try dsimp only at hSw);go_simp;try with_reducible rfl
    go_simp
    refine wpAnyH_take (i:=17) (v:=?_) rfl (by kernel_rfl) (by kernel_rfl) (by kernel_rfl) (fun _ _ _ h=>h) (Or.inl ⟨by rfl,?_⟩) (by assumption) ?_
    rotate_left
    ·intro w hSw;(try dsimp only at hSw);go_simp;try with_reducible rfl
    go_simp
    refine wpAnyH_take (i:=18) (v:=?_) rfl (by kernel_rfl) (by kernel_rfl) (by kernel_rfl) (fun _ _ _ h=>h) (Or.inl ⟨by rfl,?_⟩) (by assumption) ?_
    rotate_left
    ·intro w hSw;(try dsimp only at hSw);go_simp;try with_reducible rfl
    go_simp
    refine wpAnyH_take (i:=19) (v:=?_) rfl (by kernel_rfl) (by kernel_rfl) (by kernel_rfl) (fun _ _ _ h=>h) (Or.inl ⟨by rfl,?_⟩) (by assumption) ?_
    rotate_left
    ·intro w hSw;(try dsimp only at hSw);go_simp;try with_reducible rfl
    go_simp
    refine wpAnyH_take (i:=20) (v:=?_) rfl (by kernel_rfl) (by kernel_rfl) (by kernel_rfl) (fun _ _ _ h=>h) (Or.inl ⟨by rfl,?_⟩) (by assumption) ?_
    rotate_left
    ·intro w hSw;(try dsimp only at hSw);go_simp;try with_reducible rfl
    go_simp
    refine wpAnyH_take (i:=21) (v:=?_) rfl (by kernel_rfl) (by kernel_rfl) (by kernel_rfl) (fun _ _ _ h=>h) (Or.inl ⟨by rfl,?_⟩) (by assumption) ?_
    rotate_left
    ·intro w hSw;(try dsimp only at hSw);go_simp;try with_reducible rfl
    go_simp
    refine wpAnyH_take (i:=22) (v:=?_) rfl (by kernel_rfl) (by kernel_rfl) (by kernel_rfl) (fun _ _ _ h=>h) (Or.inl ⟨by rfl,?_⟩) (by assumption) ?_
    rotate_left
    ·intro w hSw;(try dsimp only at hSw);go_simp;try with_reducible rfl
    go_simp
    refine wpAnyH_done (by kernel_rfl) ?_ _
    obtain ⟨w3,hw3⟩:∃ x,w2=x:=⟨_,rfl⟩
    clear hHeld HS7 hc3 hc5 hc6 hc8 hc9 HALL hw3
    have H2:=Lib.hid (HH.out.below HB2.out)
    have d5:=H2.out.cells.2.2.2.2.2.1
    have d8:=H2.out.cells.2.2.2.2.2.2.2.2.1
    have d9:=H2.out.cells.2.2.2.2.2.2.2.2.2.1
    rw [HSU.out] at d8
    rw [HBR.out] at d9
    have f6:=H2.out.free 6
    have f7:=H2.out.free 7
    have f8:=H2.out.free 8
    have f9:=H2.out.free 9
    have c6:=H2.out.cells.2.2.2.2.2.2.1
    have c7:=H2.out.cells.2.2.2.2.2.2.2.1
    have HE0:=Lib.hid (H2.out.put ⟨r.es,r.rm,r.rd,r.tl,r.bl,r.top,en',r.code,r.sure,r.br,r.tk,r.ov⟩ 6 (.int .i64 en') rfl rfl rfl)
    have HK0:=Lib.hid (H2.out.kput 6 (.int .i64 en'))
    have HE1:=Lib.hid (HE0.out.put ⟨r.es,r.rm,r.rd,r.tl,r.bl,r.top,en',r.code,r.sure,true,r.tk,r.ov⟩ 9 (.bool true) rfl rfl rfl)
    have HK1:=Lib.hid (HK0.out.then (HE0.out.kput 9 (.bool true)))
    have HE2:=Lib.hid (HE1.out.put ⟨r.es,r.rm,r.rd,r.tl,r.bl,r.top,en',r.code,min su sure,true,r.tk,r.ov⟩ 8 (.int .i64 (min su sure)) rfl rfl rfl)
    have HK2:=Lib.hid (HK1.out.then (HE1.out.kput 8 (.int .i64 (min su sure))))
    have HRI:=Lib.hid (rrise_rv HE2.out (by exact HI.out.2) en' H6.out)
    have HK:=Lib.hid ((Kept.ofBelow G HB2.out).then HK2.out)
    clear HE0 HE1 HE2 HK0 HK1 HK2
    have HT:Hid (∀ W,RvTo (((w2.setCell ⟨q,6,none⟩ (.int .i64 en')).setCell ⟨q,9,none⟩ (.bool true)).setCell ⟨q,8,none⟩ (.int .i64 (min su sure))) W q G (withT ⟨r.es,r.rm,r.rd,r.tl,r.bl,r.top,en',r.code,min su sure,true,r.tk,r.ov⟩ (r.top+max 0 (en' - r.top)))→RvTo w W q G (brkR r code en' sure false)):=fun W hW=>by
     have e:brkR r code en' sure false=withT ⟨r.es,r.rm,r.rd,r.tl,r.bl,r.top,en',r.code,min su sure,true,r.tk,r.ov⟩ (r.top+max 0 (en' - r.top)):=by
      unfold brkR withT
      rw [HBR.out]
      try rw [HSU.out]
      try rfl
     rw [e]
     exact RvTo.trans HK.out (fun _ hk=>.inl hk) hW
    go_wp2_with fail
    refine HRI.out.mono ?_
    rintro e w9 ⟨rfl,ht9⟩
    have HT9:=Lib.hid (HT.out _ ht9)
    go_wp2_with fail
    go_ret2
    exact ⟨rfl,HT9.out⟩
 ·clear hd2
  cases br
  ·skip
   obtain rfl:wh=false:=by rw [HW.out];simp [hd7]
   clear HW
   go_enter Try.func41,Try.ntmps41
   go_upto_region 7 with (go_at_call 52;(with_reducible first | refine (M1.out _).mono ?_ | refine (M2.out _).mono ?_ | refine (M3.out _).mono ?_);rintro e w' ⟨rfl,rfl⟩)
   go_quiet (fail)
   obtain ⟨w2,hw2⟩:∃ x,w.drewN nq=x:=⟨_,rfl⟩
   have HB2:Hid (Below w.heap.size w w2):=by rw [← hw2];exact ⟨rfl,rfl,rfl,Nat.le_refl _,fun _ _=>rfl⟩
   rw [hw2]
   clear hw2 hc3 hc5 hc6 hc8 hc9 HALL
   have H2:=Lib.hid (HH.out.below HB2.out)
   have d5:=H2.out.cells.2.2.2.2.2.1
   have d8:=H2.out.cells.2.2.2.2.2.2.2.2.1
   have d9:=H2.out.cells.2.2.2.2.2.2.2.2.2.1
   rw [HSU.out] at d8
   rw [HBR.out] at d9
   have f6:=H2.out.free 6
   have f7:=H2.out.free 7
   have f8:=H2.out.free 8
   have f9:=H2.out.free 9
   have c6:=H2.out.cells.2.2.2.2.2.2.1
   have c7:=H2.out.cells.2.2.2.2.2.2.2.1
   have HE0:=Lib.hid (H2.out.put ⟨r.es,r.rm,r.rd,r.tl,r.bl,r.top,en',r.code,r.sure,r.br,r.tk,r.ov⟩ 6 (.int .i64 en') rfl rfl rfl)
   have HK0:=Lib.hid (H2.out.kput 6 (.int .i64 en'))
   have HE1:=Lib.hid (HE0.out.put ⟨r.es,r.rm,r.rd,r.tl,r.bl,r.top,en',code,r.sure,r.br,r.tk,r.ov⟩ 7 (.int .i64 code) rfl rfl rfl)
   have HK1:=Lib.hid (HK0.out.then (HE0.out.kput 7 (.int .i64 code)))
   have HE2:=Lib.hid (HE1.out.put ⟨r.es,r.rm,r.rd,r.tl,r.bl,r.top,en',code,sure,r.br,r.tk,r.ov⟩ 8 (.int .i64 sure) rfl rfl rfl)
   have HK2:=Lib.hid (HK1.out.then (HE1.out.kput 8 (.int .i64 sure)))
   have HE3:=Lib.hid (HE2.out.put ⟨r.es,r.rm,r.rd,r.tl,r.bl,r.top,en',code,sure,true,r.tk,r.ov⟩ 9 (.bool true) rfl rfl rfl)
   have HK3:=Lib.hid (HK2.out.then (HE2.out.kput 9 (.bool true)))
   have HE4:=Lib.hid (HE3.out.put ⟨r.es,r.rm,r.rd,r.tl,r.bl,r.top,en',code,sure,true,r.tk,r.ov⟩ 8 (.int .i64 sure) rfl rfl rfl)
   have HK4:=Lib.hid (HK3.out.then (HE3.out.kput 8 (.int .i64 sure)))
   have HRI:=Lib.hid (rrise_rv HE4.out (by exact HI.out.2) en' H6.out)
   have HK:=Lib.hid ((Kept.ofBelow G HB2.out).then HK4.out)
   clear HE0 HE1 HE2 HE3 HE4 HK0 HK1 HK2 HK3 HK4
   have HT:Hid (∀ W,RvTo (((((w2.setCell ⟨q,6,none⟩ (.int .i64 en')).setCell ⟨q,7,none⟩ (.int .i64 code)).setCell ⟨q,8,none⟩ (.int .i64 sure)).setCell ⟨q,9,none⟩ (.bool true)).setCell ⟨q,8,none⟩ (.int .i64 sure)) W q G (withT ⟨r.es,r.rm,r.rd,r.tl,r.bl,r.top,en',code,sure,true,r.tk,r.ov⟩ (r.top+max 0 (en' - r.top)))→RvTo w W q G (brkR r code en' sure false)):=fun W hW=>by
    have e:brkR r code en' sure false=withT ⟨r.es,r.rm,r.rd,r.tl,r.bl,r.top,en',code,sure,true,r.tk,r.ov⟩ (r.top+max 0 (en' - r.top)):=by
     unfold brkR withT
     rw [HBR.out]
     try rw [HSU.out]
     try rfl
    rw [e]
    exact RvTo.trans HK.out (fun _ hk=>.inl hk) hW
   go_wp2_with fail
   refine HRI.out.mono ?_
   rintro e w9 ⟨rfl,ht9⟩
   have HT9:=Lib.hid (HT.out _ ht9)
   go_wp2_with fail
   go_ret2
   exact ⟨rfl,HT9.out⟩
  ·skip
   obtain rfl:wh=false:=by rw [HW.out];simp [hd7]
   clear HW
   go_enter Try.func41,Try.ntmps41
   go_upto_region 7 with (go_at_call 52;(with_reducible first | refine (M1.out _).mono ?_ | refine (M2.out _).mono ?_ | refine (M3.out _).mono ?_);rintro e w' ⟨rfl,rfl⟩)
   go_quiet (fail)
   obtain ⟨w2,hw2⟩:∃ x,w.drewN nq=x:=⟨_,rfl⟩
   have HB2:Hid (Below w.heap.size w w2):=by rw [← hw2];exact ⟨rfl,rfl,rfl,Nat.le_refl _,fun _ _=>rfl⟩
   rw [hw2]
   clear hw2 hc3 hc5 hc6 hc8 hc9 HALL
   have H2:=Lib.hid (HH.out.below HB2.out)
   have d5:=H2.out.cells.2.2.2.2.2.1
   have d8:=H2.out.cells.2.2.2.2.2.2.2.2.1
   have d9:=H2.out.cells.2.2.2.2.2.2.2.2.2.1
   rw [HSU.out] at d8
   rw [HBR.out] at d9
   have f6:=H2.out.free 6
   have f7:=H2.out.free 7
   have f8:=H2.out.free 8
   have f9:=H2.out.free 9
   have c6:=H2.out.cells.2.2.2.2.2.2.1
   have c7:=H2.out.cells.2.2.2.2.2.2.2.1
   have HE0:=Lib.hid (H2.out.put ⟨r.es,r.rm,r.rd,r.tl,r.bl,r.top,en',r.code,r.sure,r.br,r.tk,r.ov⟩ 6 (.int .i64 en') rfl rfl rfl)
   have HK0:=Lib.hid (H2.out.kput 6 (.int .i64 en'))
   have HE1:=Lib.hid (HE0.out.put ⟨r.es,r.rm,r.rd,r.tl,r.bl,r.top,en',r.code,r.sure,true,r.tk,r.ov⟩ 9 (.bool true) rfl rfl rfl)
   have HK1:=Lib.hid (HK0.out.then (HE0.out.kput 9 (.bool true)))
   have HE2:=Lib.hid (HE1.out.put ⟨r.es,r.rm,r.rd,r.tl,r.bl,r.top,en',r.code,min su sure,true,r.tk,r.ov⟩ 8 (.int .i64 (min su sure)) rfl rfl rfl)
   have HK2:=Lib.hid (HK1.out.then (HE1.out.kput 8 (.int .i64 (min su sure))))
   have HRI:=Lib.hid (rrise_rv HE2.out (by exact HI.out.2) en' H6.out)
   have HK:=Lib.hid ((Kept.ofBelow G HB2.out).then HK2.out)
   clear HE0 HE1 HE2 HK0 HK1 HK2
   have HT:Hid (∀ W,RvTo (((w2.setCell ⟨q,6,none⟩ (.int .i64 en')).setCell ⟨q,9,none⟩ (.bool true)).setCell ⟨q,8,none⟩ (.int .i64 (min su sure))) W q G (withT ⟨r.es,r.rm,r.rd,r.tl,r.bl,r.top,en',r.code,min su sure,true,r.tk,r.ov⟩ (r.top+max 0 (en' - r.top)))→RvTo w W q G (brkR r code en' sure false)):=fun W hW=>by
    have e:brkR r code en' sure false=withT ⟨r.es,r.rm,r.rd,r.tl,r.bl,r.top,en',r.code,min su sure,true,r.tk,r.ov⟩ (r.top+max 0 (en' - r.top)):=by
     unfold brkR withT
     rw [HBR.out]
     try rw [HSU.out]
     try rfl
    rw [e]
    exact RvTo.trans HK.out (fun _ hk=>.inl hk) hW
   go_wp2_with fail
   refine HRI.out.mono ?_
   rintro e w9 ⟨rfl,ht9⟩
   have HT9:=Lib.hid (HT.out _ ht9)
   go_wp2_with fail
   go_ret2
   exact ⟨rfl,HT9.out⟩
/-- Break, whatever comes: as the program's. -/
theorem rbreak_rv {s:Rs} (h:RvIn w q G v0 v4 r) (hm:Me r s) (hfew:s.es.length≤4398046511000) (code en' sure:Int) :
  Calls Try.prog 41 #[.pointer (some ⟨q,0,none⟩),.int .i64 code,.int .i64 en',.int .i64 sure] w fun e w'=>e=.returned (.tuple #[.int .i64 (breakS s code en' sure).1,.int .i64 (breakS s code en' sure).2.1])∧∃ r',Me r' (breakS s code en' sure).2.2∧RvTo w w' q G r':=by
 by_cases hb:code<0∨code > 4611686018427387903∨sure<0∨sure > en'∨en' > 4611686018427387903
 ·have e:breakS s code en' sure=(0,1,s):=by unfold breakS;rw [if_pos hb]
  rw [e]
  exact (rbreak_arg h code en' sure hb).mono fun _ _ hh=>⟨hh.1,r,hm,hh.2⟩
 ·have hrr:=hm.ref en' true
  by_cases h2:refuseS s en' true=0
  ·have hbf:=break_form hb h2
   have hri:=hm.ri.brk code en' sure
   have htp:=hm.ri.top
   have htl:=hm.ri.tl
   have h5:=(refuse_zero h2).2.2 rfl
   have h6:=(refuse_zero h2).2.1
   refine (rbreak_ok h ⟨by rw [hm.es];exact hfew,by rw [hm.top];omega⟩ code en' sure hb (by rw [hrr];exact h2)).mono ?_
   rintro e w' ⟨rfl,ht⟩
   rw [hbf] at hri ⊢
   refine ⟨by rw [hm.top,show max 0 (en' - s.top)=en' - s.top by omega],brkR r code en' sure (whR r),⟨hm.es,hm.rm,hm.rd,hm.tl,?_,?_,?_,?_,?_,hm.tk,hri,hm.bl,?_⟩,ht⟩
   ·show r.top+max 0 (en' - r.top)=en'
    rw [hm.top];omega
   ·rfl
   all_goals
    have hw:whR r=(wholeS s && !s.br):=by
     unfold whR wholeS
     rw [hm.en,hm.es,hm.br]
     cases hse:s.en with
     | true=>rw [if_pos rfl];simp [htp.1]
     | false=>rw [if_neg (by simp)];simp
   ·show (if (whR r || r.br)=true then r.code else code)=if s.br then s.code else if wholeS s then s.code else code
    rw [hw,hm.br,hm.code]
    cases s.br <;> cases wholeS s <;> rfl
   ·show (if whR r=true then r.sure else if r.br=true then min r.sure sure else sure)=if s.br then min s.sure sure else if wholeS s then s.sure else sure
    rw [hw,hm.br,hm.sure]
    cases s.br <;> cases wholeS s <;> rfl
   ·show (!whR r || r.br)=(s.br || !wholeS s)
    rw [hw,hm.br]
    cases s.br <;> cases wholeS s <;> rfl
   ·show (r.bl.length:Int)≤en'
    have:=hm.bt
    omega
  ·have e:breakS s code en' sure=(0,refuseS s en' true,s):=by unfold breakS;rw [if_neg hb,if_pos h2]
   rw [e]
   have:=rbreak_ref h code en' sure hb (fun hh=>by
    have k:=hm.en
    rw [hm.top]
    by_cases k2:s.en=true
    ·rw [k,if_pos k2]
    ·rw [k,if_neg k2] at hh;omega) (by rw [hrr];exact h2)
   rw [hrr] at this
   exact this.mono fun _ _ hh=>⟨hh.1,r,hm,hh.2⟩
end
end Go.Proofs.Ytoahkffdoaphlaa.Re
