/- SpansTells: plain facts; the law's own num; memory of two sets side by side. Conditions: as each theorem lists them. -/
import Derived.Test.YtoglpjgmnojdjaaKn2
import Derived.Test.YtoglpjgmnojdjaaT5
set_option linter.unusedSimpArgs false
set_option linter.unusedVariables false
namespace Go.Proofs.Ytoglpjgmnojdjaa.Tells
open Go Go.RowKit

/-- The law's own num. -/
def numG (y : Int) : Int := if y % 17 = 16 then numF (y.tdiv 17) else y.tdiv 17 % 60 - 3
theorem tdiv_bd (y : Int) (h1 : -9223372036854775808 ≤ y) (h2 : y ≤ 9223372036854775807) : -1152921504606846976 ≤ y.tdiv 17 ∧ y.tdiv 17 ≤ 1152921504606846976 := by
  have := Int.tdiv_eq_ediv (a := y) (b := 17)
  have hs : Int.sign 17 = 1 := rfl
  rw [hs] at this
  rw [this]
  split <;> omega
theorem numG_bd (y : Int) (h1 : -9223372036854775808 ≤ y) (h2 : y ≤ 9223372036854775807) : -1152921504606846976 ≤ numG y ∧ numG y ≤ 4611686018427387904 := by
  have hb := tdiv_bd y h1 h2
  unfold numG
  split
  · unfold numF
    simp only
    have hk0 := Int.emod_nonneg ((y.tdiv 17).tdiv 9) (show (3 : Int) ≠ 0 by decide)
    have hk1 := Int.emod_lt_of_pos ((y.tdiv 17).tdiv 9) (show (0 : Int) < 3 by decide)
    have h50 := Int.emod_nonneg ((y.tdiv 17).tdiv 9) (show (500 : Int) ≠ 0 by decide)
    have h51 := Int.emod_lt_of_pos ((y.tdiv 17).tdiv 9) (show (0 : Int) < 500 by decide)
    (repeat' split) <;> omega
  · have h50 := Int.emod_nonneg (y.tdiv 17) (show (60 : Int) ≠ 0 by decide)
    have h51 := Int.emod_lt_of_pos (y.tdiv 17) (show (0 : Int) < 60 by decide)
    omega

set_option maxHeartbeats 1000000 in
theorem num_g (y : Int) (w : World) (h1 : -9223372036854775808 ≤ y) (h2 : y ≤ 9223372036854775807) :
    Calls Try.prog 7 #[.int .i64 y] w fun e w' => e = .returned (.int .i64 (numG y)) ∧ w = w' := by
  have hb := tdiv_bd y h1 h2
  obtain ⟨z, hz⟩ : ∃ z, Hid (y.tdiv 17 = z) := ⟨_, rfl⟩
  have hzz := hz.out
  rw [hz.out] at hb
  have HG : Hid (numG y = if y % 17 = 16 then numF z else z % 60 - 3) := by show _ = _; unfold numG; rw [hz.out]
  obtain ⟨g, hg⟩ : ∃ g, Hid (numG y = g) := ⟨_, rfl⟩
  rw [hg.out] at HG ⊢
  have HP := Lib.hid (fun W => pick_any y 17 W (by omega) (by omega))
  have HN := Lib.hid (fun W => num_any z W (by omega) (by omega))
  have HQ := Lib.hid (fun W => pick_any z 60 W (by omega) (by omega))
  have h50 := Int.emod_nonneg z (show (60 : Int) ≠ 0 by decide)
  have h51 := Int.emod_lt_of_pos z (show (0 : Int) < 60 by decide)
  cases ht : (y % 17 == 16) with
  | true =>
    have HE : Hid (numF z = g) := by rw [HG.out, if_pos (by simpa using ht)]; exact rfl
    go_enter Try.func7, Try.ntmps7
    go_wp2_with fail
    refine (HP.out _).mono ?_; rintro e w' ⟨rfl, rfl⟩
    go_wp2_with fail
    refine (HN.out _).mono ?_; rintro e w' ⟨rfl, rfl⟩
    go_wp2_with fail
    go_ret
    exact ⟨ret_int HE.out, rfl⟩
  | false =>
    have HE : Hid (z % 60 - 3 = g) := by rw [HG.out, if_neg (by simpa using ht)]; exact rfl
    go_enter Try.func7, Try.ntmps7
    go_wp2_with fail
    refine (HP.out _).mono ?_; rintro e w' ⟨rfl, rfl⟩
    go_wp2_with fail
    refine (HQ.out _).mono ?_; rintro e w' ⟨rfl, rfl⟩
    go_wp2_with fail
    go_ret
    exact ⟨ret_int HE.out, rfl⟩

/-- Numbers added one by one. -/
def addL (R : List Int) (ys : List Int) : List Int := ys.foldl (fun R y => turn R y (y + 1) true) R
theorem addL_snoc (R ys : List Int) (y : Int) : addL R (ys ++ [y]) = turn (addL R ys) y (y + 1) true := by simp [addL]
theorem addL_app (R ys zs : List Int) : addL R (ys ++ zs) = addL (addL R ys) zs := by simp [addL]
theorem addL_ok {R : List Int} (h : Ok R) : ∀ ys : List Int, Ok (addL R ys) := fun ys => by
  induction ys generalizing R with
  | nil => exact h
  | cons y ys ih => exact ih (ok_turn _ _ _ _ h)
theorem addL_len (R : List Int) : ∀ ys : List Int, (addL R ys).length ≤ R.length + 2 * ys.length := fun ys => by
  induction ys generalizing R with
  | nil => simp [addL]
  | cons y ys ih =>
    have := ih (turn R y (y + 1) true)
    have := Ref.turn_len R y (y + 1) true
    show (addL (turn R y (y + 1) true) ys).length ≤ _
    simp only [List.length_cons]
    omega
theorem one_run (y n : Int) : (clamp y ≤ n ∧ n < clamp (y + 1)) ↔ (mayN n = true ∧ n = y) := by
  unfold clamp mayN
  simp only [Bool.and_eq_true, decide_eq_true_eq]
  omega
theorem addL_mem {R : List Int} (h : Ok R) (n : Int) : ∀ ys : List Int, mem (addL R ys) n = (mem R n || (mayN n && ys.contains n)) := fun ys => by
  induction ys generalizing R with
  | nil => simp [addL]
  | cons y ys ih =>
    show mem (addL (turn R y (y + 1) true) ys) n = _
    rw [ih (ok_turn _ _ _ _ h), mem_turn _ _ _ _ h, List.contains_cons]
    by_cases c : clamp y ≤ n ∧ n < clamp (y + 1)
    · rw [if_pos c]
      obtain ⟨c1, c2⟩ := (one_run y n).1 c
      rw [c1, c2]; simp
    · rw [if_neg c]
      by_cases c1 : mayN n = true
      · have c2 : ¬ n = y := fun e => c ((one_run y n).2 ⟨c1, e⟩)
        rw [c1, show (n == y) = false by simpa using c2]; simp
      · rw [Bool.eq_false_iff.2 c1]; simp

/-- Both sets, in variables of their own. -/
structure BothS (w wr : World) (p r : Nat) (es : List Int) : Prop where
  mine : SetIn wr p es
  ref : Ref.RefIn wr r es
  below : Below w.heap.size w wr
  ne : p ≠ r
  hp : w.heap.size ≤ p
  hr : w.heap.size ≤ r

theorem set_ref {w w' : World} {p q : Nat} {es es' : List Int} (h : SetIn w p es) (hg : w.grownBy w' (some q)) (hq : Ref.RefIn w q es') (hpq : p ≠ q) : SetIn w' p es := by
  have hlt := h.lt
  obtain ⟨h1, A, c, h2, h3, h4, h5⟩ := h
  obtain ⟨_, A', n', c', _, h2', _⟩ := hq
  exact ⟨h1, A, c, (hg.block p hlt (by simp; omega)).trans h2, h3, h4, (h5.but (Nat.le_refl _) hg h2').more hg.size⟩
theorem ref_set {w w' : World} {p q : Nat} {es es' : List Int} (h : Ref.RefIn w p es) (hg : w.grownBy w' (some q)) (hq : SetIn w q es') (hpq : p ≠ q) : Ref.RefIn w' p es := by
  have hl := h.lt
  obtain ⟨h1, A, n, c, h0, h2, h3, h4⟩ := h
  obtain ⟨_, A', c', h2', _⟩ := hq
  exact ⟨h1, A, n, c, h0, (hg.block p hl (by simp; omega)).trans h2, h3, (h4.but (Nat.le_refl _) hg h2').more hg.size⟩
theorem BothS.goes {w wr w' : World} {p r : Nat} {es : List Int} (h : BothS w wr p r es) (hb : Below wr.heap.size wr w') : BothS w w' p r es :=
  ⟨h.mine.below hb, h.ref.below hb, h.below.trans (hb.mono h.below.size), h.ne, h.hp, h.hr⟩
/-- Turned in the one, then in the other. -/
theorem BothS.turn {w wr w1 w2 : World} {p r : Nat} {es es2 : List Int} (h : BothS w wr p r es) (h1 : SetIn w1 p es2) (g1 : wr.grownBy w1 (some p)) (h2 : Ref.RefIn w2 r es2) (g2 : w1.grownBy w2 (some r)) : BothS w w2 p r es2 := by
  have hr1 := ref_set h.ref g1 h.mine h.ne.symm
  exact ⟨set_ref h1 g2 hr1 h.ne, h2, (h.below.grown g1 h.below.size (fun g hg => by simp at hg; subst hg; exact h.hp)).grown g2 (Nat.le_trans h.below.size g1.size) (fun g hg => by simp at hg; subst hg; exact h.hr), h.ne, h.hp, h.hr⟩
theorem BothS.ref1 {w wr w1 : World} {p r : Nat} {es : List Int} (h : BothS w wr p r es) (g1 : wr.grownBy w1 (some p)) : Ref.RefIn w1 r es := ref_set h.ref g1 h.mine h.ne.symm

theorem own_grown {w w' : World} {base e size n p : Nat} {v : Value} {xs : List Value} (h : w.ownsRow base e size v n xs) (g : w.grownBy w' (some p)) (hp : p < base) : w'.ownsRow base e size v n xs :=
  h.kept g (by
    by_cases hb : v.ownBlock = none
    · exact .inl hb
    · exact .inr fun e => by have := (h.lt p e).1; omega)
theorem grown_row {w wr w1 : World} {p base : Nat} {row : Option Nat} (h : w.grownBy wr (some p)) (g : wr.grownBy w1 row) (hb : w.heap.size ≤ base) (hr : ∀ k, row = some k → base ≤ k) : w.grownBy w1 (some p) :=
  ⟨g.os.trans h.os, g.tape.trans h.tape, g.output.trans h.output, Nat.le_trans h.size g.size, fun k hk hne => (g.block k (Nat.lt_of_lt_of_le hk h.size) (fun e => by have := hr k e.symm; omega)).trans (h.block k hk hne)⟩
theorem grown_two {a b c : World} {p : Nat} (h : a.grownBy b (some p)) (k : b.grownBy c (some p)) : a.grownBy c (some p) :=
  ⟨k.os.trans h.os, k.tape.trans h.tape, k.output.trans h.output, Nat.le_trans h.size k.size, fun g hg hne => (k.block g (Nat.lt_of_lt_of_le hg h.size) hne).trans (h.block g hg hne)⟩
theorem grown_b {a b c : World} {p : Nat} (h : a.grownBy b (some p)) (k : Below b.heap.size b c) : a.grownBy c (some p) := grown_two h (below_grown k p)
theorem own_block {w : World} {base e size n : Nat} {v : Value} {xs : List Value} (h : w.ownsRow base e size v n xs) : ∀ g, v.ownBlock = some g → ∃ cur fr, w.heap[g]? = some (.cells cur e fr) := fun g hg => by
  rcases h.2 with ⟨rfl, _⟩ | ⟨g', cap, cur, rfl, _, hh, _⟩
  · simp [Value.ownBlock] at hg
  · simp [Value.ownBlock] at hg; subst hg; exact ⟨cur, _, hh⟩
/-- A row stays while a block of another kind is written. -/
theorem own_kind {w w' : World} {base e e' size n : Nat} {v : Value} {xs : List Value} {row : Option Nat} (h : w.ownsRow base e size v n xs) (g : w.grownBy w' row) (hr : ∀ k, row = some k → ∃ cur fr, w.heap[k]? = some (.cells cur e' fr)) (hne : e ≠ e') : w'.ownsRow base e size v n xs :=
  h.kept g (by
    cases hv : v.ownBlock with
    | none => exact .inl rfl
    | some k =>
      refine .inr fun e0 => ?_
      obtain ⟨c1, f1, h1⟩ := own_block h k hv
      obtain ⟨c2, f2, h2⟩ := hr k e0.symm
      rw [h1] at h2
      cases h2
      exact hne rfl)
end Go.Proofs.Ytoglpjgmnojdjaa.Tells
