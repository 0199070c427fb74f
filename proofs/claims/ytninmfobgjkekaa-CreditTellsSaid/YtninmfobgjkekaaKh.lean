/- CreditTells: the walk. Conditions: the calls' row is an argument's. -/
import Derived.Test.YtninmfobgjkekaaKe
set_option linter.unusedSimpArgs false
set_option linter.unusedVariables false
namespace Go.Proofs.Ytninmfobgjkekaa.Cr
open Go Go.RowKit Go.Proofs.Ytninmfobgjkekaa Go.Proofs.Ytninmfobgjkekaa.Cg

set_option maxHeartbeats 1000000 in
theorem num12_any (n : Int) (h1 : -9223372036854775808 ≤ n) (h2 : n ≤ 9223372036854775807) :
    ∃ z : Int, ∀ w : World, Calls Try.prog 16 #[.int .i64 n] w fun e w' => e = .returned (.int .i64 z) ∧ w = w' := by
  obtain ⟨M, hM, hM0, hM3⟩ : ∃ x : Int, n % 13 = x ∧ 0 ≤ x ∧ x < 13 := ⟨n % 13, rfl, by omega, by omega⟩
  obtain ⟨k, hk⟩ : ∃ x : Int, n.tdiv 13 = x := ⟨_, rfl⟩
  have hkb : -9223372036854775808 ≤ k ∧ k ≤ 9223372036854775807 := by
    have e : n.tdiv 13 = if 0 ≤ n then n / 13 else -(-n / 13) := by
      split
      · exact Int.tdiv_eq_ediv_of_nonneg (by assumption)
      · rw [← Int.neg_neg n, Int.neg_tdiv, Int.tdiv_eq_ediv_of_nonneg (by omega), Int.neg_neg]
    rw [← hk, e]
    split <;> omega
  have hw : IntKind.i64.wrap (n.tdiv 13) = k := by rw [hk]; exact IntWalk.i64_in _ (by omega)
  have HP := Lib.hid (fun W => pick_any n 13 W (by decide) (by decide))
  rw [hM] at HP
  have HN := Lib.hid (fun W => num_any k W hkb.1 hkb.2)
  have HP3 := Lib.hid (fun W => pick_any k 300 W (by decide) (by decide))
  obtain ⟨y, hy, hy0, hy3⟩ : ∃ x : Int, k % 300 = x ∧ 0 ≤ x ∧ x < 300 := ⟨k % 300, rfl, by omega, by omega⟩
  rw [hy] at HP3
  obtain ⟨z, hz⟩ : ∃ z, numF k = z := ⟨_, rfl⟩
  rw [hz] at HN
  clear hM hk hy hz hkb
  by_cases hc : M = 12
  · refine ⟨z, fun w => ?_⟩
    subst hc
    go_enter Try.func16, Try.ntmps16
    go_wp2_with fail
    refine (HP.out _).mono ?_; rintro e w' ⟨rfl, rfl⟩
    go_wp2_with fail
    refine (HN.out _).mono ?_; rintro e w' ⟨rfl, rfl⟩
    go_wp2_with fail
    go_ret
    exact ⟨rfl, rfl⟩
  · refine ⟨y - 20, fun w => ?_⟩
    have hc' : (M == 12) = false := by simpa using hc
    go_enter Try.func16, Try.ntmps16
    go_wp2_with fail
    refine (HP.out _).mono ?_; rintro e w' ⟨rfl, rfl⟩
    go_wp2_with fail
    refine (HP3.out _).mono ?_; rintro e w' ⟨rfl, rfl⟩
    go_wp2_with fail
    go_ret
    exact ⟨rfl, rfl⟩

/-- The program's credit and grant, and the reference's, hold the same. -/
structure Four (w0 w : World) (p1 p2 p3 p4 : Nat) (l u rm rd tl : Int) : Prop where
  a : SC w p1 23 l u
  a' : SC w p2 35 l u
  b : SG w p3 26 rm rd tl
  b' : SG w p4 37 rm rd tl
  ok : OkC l u
  lo : w0.heap.size ≤ p1
  h12 : p1 < p2
  h23 : p2 < p3
  h34 : p3 < p4
  be : Below w0.heap.size w0 w
  r1 : 1 ≤ rm ∧ rm ≤ 1048576
  d0 : 0 ≤ rd
  t0 : 0 ≤ tl
  tr : tl ≤ rd + rm
section
variable {w0 w w1 w2 : World} {p1 p2 p3 p4 : Nat} {l u rm rd tl l' u' rd' tl' : Int}
theorem Four.below {B : Nat} (h : Four w0 w p1 p2 p3 p4 l u rm rd tl) (hb : Below B w w1) (hB : w.heap.size ≤ B) : Four w0 w1 p1 p2 p3 p4 l u rm rd tl :=
  ⟨h.a.below hb (Nat.lt_of_lt_of_le h.a.lt hB), h.a'.below hb (Nat.lt_of_lt_of_le h.a'.lt hB), h.b.below hb (Nat.lt_of_lt_of_le h.b.lt hB), h.b'.below hb (Nat.lt_of_lt_of_le h.b'.lt hB), h.ok, h.lo, h.h12, h.h23, h.h34, h.be.trans (hb.mono (by have := h.a.lt; have := h.lo; omega)), h.r1, h.d0, h.t0, h.tr⟩
theorem Four.drewN (h : Four w0 w p1 p2 p3 p4 l u rm rd tl) (m : Nat) : Four w0 (w.drewN m) p1 p2 p3 p4 l u rm rd tl :=
  ⟨h.a.drewN m, h.a'.drewN m, h.b.drewN m, h.b'.drewN m, h.ok, h.lo, h.h12, h.h23, h.h34, ⟨h.be.os, h.be.tape, h.be.output, h.be.size, h.be.block⟩, h.r1, h.d0, h.t0, h.tr⟩
theorem Four.grown {q : Nat} (h : Four w0 w p1 p2 p3 p4 l u rm rd tl) (hq : p1 ≤ q) (hg : w.grownBy w1 (some q)) : Below w0.heap.size w0 w1 :=
  h.be.grown hg (Nat.le_of_lt (Nat.lt_of_le_of_lt h.lo h.a.lt)) (by rintro k hk; cases hk; exact Nat.le_trans h.lo hq)
theorem below_two {w0 w w1 w2 : World} {p q : Nat} (h : Below w0.heap.size w0 w) (hg : w.grownBy w1 (some p)) (hg2 : w1.grownBy w2 (some q)) (h0 : w0.heap.size ≤ w.heap.size) (hp : w0.heap.size ≤ p) (hq : w0.heap.size ≤ q) : Below w0.heap.size w0 w2 :=
  (h.grown hg h0 (by rintro k hk; cases hk; exact hp)).grown hg2 (Nat.le_trans h0 hg.size) (by rintro k hk; cases hk; exact hq)
theorem Four.cred (h : Four w0 w p1 p2 p3 p4 l u rm rd tl) (k1 : SC w1 p1 23 l' u') (g1 : w.grownBy w1 (some p1)) (k2 : SC w2 p2 35 l' u') (g2 : w1.grownBy w2 (some p2)) (hok : OkC l' u') : Four w0 w2 p1 p2 p3 p4 l' u' rm rd tl := by
  have h1 := h.h12; have h2 := h.h23; have h3 := h.h34; have hl := h.lo; have := h.a.lt
  exact ⟨k1.kept g2 (by omega), k2, (h.b.kept g1 (by omega)).kept g2 (by omega), (h.b'.kept g1 (by omega)).kept g2 (by omega), hok, hl, h1, h2, h3, below_two h.be g1 g2 (by omega) (by omega) (by omega), h.r1, h.d0, h.t0, h.tr⟩
theorem Four.grant (h : Four w0 w p1 p2 p3 p4 l u rm rd tl) (k1 : SG w1 p3 26 rm rd' tl') (g1 : w.grownBy w1 (some p3)) (k2 : SG w2 p4 37 rm rd' tl') (g2 : w1.grownBy w2 (some p4)) (hd : 0 ≤ rd') (ht : 0 ≤ tl') (htr : tl' ≤ rd' + rm) : Four w0 w2 p1 p2 p3 p4 l u rm rd' tl' := by
  have h1 := h.h12; have h2 := h.h23; have h3 := h.h34; have hl := h.lo; have := h.a.lt
  exact ⟨(h.a.kept g1 (by omega)).kept g2 (by omega), (h.a'.kept g1 (by omega)).kept g2 (by omega), k1.kept g2 (by omega), k2, h.ok, hl, h1, h2, h3, below_two h.be g1 g2 (by omega) (by omega) (by omega), h.r1, hd, ht, htr⟩
end
end Go.Proofs.Ytninmfobgjkekaa.Cr
