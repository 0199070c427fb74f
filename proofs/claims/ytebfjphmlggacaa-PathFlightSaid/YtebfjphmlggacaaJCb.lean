/- New, Bad, Fits of the program: contracts. Conditions: as each theorem lists them. -/
import Derived.Test.YtebfjphmlggacaaJCa
import Derived.Deep.DeepCutAuto
import Derived.Deep.CutBlock
import Derived.Laws.Rows
set_option linter.unusedSimpArgs false
set_option linter.unusedVariables false

namespace Go.Proofs.Ytebfjphmlggacaa.Cg
open Go Go.RowKit Go.Proofs.Ytebfjphmlggacaa

set_option maxRecDepth 100000 in
theorem fits_any (w : World) (p o : Nat) (T : TypeId) (cur : Array Value) (s : Win) (h : WinIn w p o T cur s) (n : Int) :
    Calls Try.prog 32 #[.pointer (some ⟨p, o, none⟩), .int .i64 n] w fun e w' => e = .returned (.bool (decide (n < s.size))) ∧ w' = w := by
  have hc := h.cell.1
  clear h
  go_enter Try.func32, Try.ntmps32
  go_wp2
  go_ret
  exact ⟨rfl, rfl⟩

set_option maxRecDepth 100000 in
set_option maxHeartbeats 2000000 in
theorem bad_any (w : World) (p o : Nat) (T : TypeId) (cur : Array Value) (s : Win) (h : WinIn w p o T cur s) (hok : OkW s) (num next : Int) :
    Calls Try.prog 31 #[.pointer (some ⟨p, o, none⟩), .int .i64 num, .int .i64 next] w fun e w' => e = .returned (.tuple #[]) ∧ ∃ cur', WinIn w' p o T cur' (badS s num next) ∧ CurSame o cur cur' ∧ w.grownBy w' (some p) := by
  have H := Lib.hid h
  have hc := h.cell.2.2.2
  have h2 := hok.s2
  have h32 := hok.s32
  by_cases hn : num < s.till
  · have HE : Hid (badS s num next = s) := if_pos hn
    rw [HE.out]
    clear h hok
    go_enter Try.func31, Try.ntmps31
    go_wp2_with fail
    exact bodyPost_ret (v := .tuple #[]) (by simp [results, Try.results31, go_sem]) rfl ⟨rfl, _, H.out, CurSame.refl _ _, grown_refl _ _⟩
  · obtain ⟨hc0, hc1, hc2, hc3⟩ := h.cell
    have hf := h.free
    have e2 : s.size.tdiv 2 = s.size / 2 := Int.tdiv_eq_ediv_of_nonneg (by omega)
    have HE : Hid (badS s num next = ⟨max (s.size.tdiv 2) 2, max (s.size.tdiv 2) 2, 0, next⟩) := if_neg hn
    rw [HE.out]
    obtain ⟨x, hx⟩ : ∃ x, s.size / 2 = x := ⟨_, rfl⟩
    rw [e2, hx]
    have hxs : 0 ≤ s.size := by omega
    clear e2 HE
    rcases Int.lt_trichotomy x 2 with h2x | h2x | h2x
    · have h2y : ¬ 2 < x := by omega
      have h2z : ¬ 2 ≤ x := by omega
      rw [Int.max_eq_right (by omega)]
      have HW1 := h.set1 2
      have HW2 := HW1.set0 2
      have HW3 := HW2.set2 0
      have HW4 := HW3.set3 next
      have d1 := HW1.cell
      have d2 := HW2.cell
      have d3 := HW3.cell
      have g1 := HW1.free
      have g2 := HW2.free
      have g3 := HW3.free
      obtain ⟨d10, d11, d12, d13⟩ := d1
      obtain ⟨d20, d21, d22, d23⟩ := d2
      obtain ⟨d30, d31, d32, d33⟩ := d3
      have HF : Hid (WinIn ((((w.setCell ⟨p, o + 1, none⟩ (.int .i64 2)).setCell ⟨p, o, none⟩ (.int .i64 2)).setCell ⟨p, o + 2, none⟩ (.int .i64 0)).setCell ⟨p, o + 3, none⟩ (.int .i64 next)) p o T ((((cur.setIfInBounds (o + 1) (.int .i64 2)).setIfInBounds o (.int .i64 2)).setIfInBounds (o + 2) (.int .i64 0)).setIfInBounds (o + 3) (.int .i64 next)) ⟨2, 2, 0, next⟩ ∧ CurSame o cur ((((cur.setIfInBounds (o + 1) (.int .i64 2)).setIfInBounds o (.int .i64 2)).setIfInBounds (o + 2) (.int .i64 0)).setIfInBounds (o + 3) (.int .i64 next)) ∧ w.grownBy ((((w.setCell ⟨p, o + 1, none⟩ (.int .i64 2)).setCell ⟨p, o, none⟩ (.int .i64 2)).setCell ⟨p, o + 2, none⟩ (.int .i64 0)).setCell ⟨p, o + 3, none⟩ (.int .i64 next)) (some p)) :=
        ⟨HW4, ((((CurSame.refl o cur).set (o + 1) (by omega) _).set o (by omega) _).set (o + 2) (by omega) _).set (o + 3) (by omega) _, grown_set (grown_set (grown_set (grown_set (grown_refl _ _) _ _) _ _) _ _) _ _⟩
      clear h hok HW1 HW2 HW3 HW4 H
      go_enter Try.func31, Try.ntmps31
      go_wp2_with fail
      first | go_end0 | go_ret
      exact ⟨rfl, _, HF.out⟩
    · subst h2x
      rw [show max (2 : Int) 2 = 2 from rfl]
      have HW1 := h.set1 2
      have HW2 := HW1.set0 2
      have HW3 := HW2.set2 0
      have HW4 := HW3.set3 next
      have d1 := HW1.cell
      have d2 := HW2.cell
      have d3 := HW3.cell
      have g1 := HW1.free
      have g2 := HW2.free
      have g3 := HW3.free
      obtain ⟨d10, d11, d12, d13⟩ := d1
      obtain ⟨d20, d21, d22, d23⟩ := d2
      obtain ⟨d30, d31, d32, d33⟩ := d3
      have HF : Hid (WinIn ((((w.setCell ⟨p, o + 1, none⟩ (.int .i64 2)).setCell ⟨p, o, none⟩ (.int .i64 2)).setCell ⟨p, o + 2, none⟩ (.int .i64 0)).setCell ⟨p, o + 3, none⟩ (.int .i64 next)) p o T ((((cur.setIfInBounds (o + 1) (.int .i64 2)).setIfInBounds o (.int .i64 2)).setIfInBounds (o + 2) (.int .i64 0)).setIfInBounds (o + 3) (.int .i64 next)) ⟨2, 2, 0, next⟩ ∧ CurSame o cur ((((cur.setIfInBounds (o + 1) (.int .i64 2)).setIfInBounds o (.int .i64 2)).setIfInBounds (o + 2) (.int .i64 0)).setIfInBounds (o + 3) (.int .i64 next)) ∧ w.grownBy ((((w.setCell ⟨p, o + 1, none⟩ (.int .i64 2)).setCell ⟨p, o, none⟩ (.int .i64 2)).setCell ⟨p, o + 2, none⟩ (.int .i64 0)).setCell ⟨p, o + 3, none⟩ (.int .i64 next)) (some p)) :=
        ⟨HW4, ((((CurSame.refl o cur).set (o + 1) (by omega) _).set o (by omega) _).set (o + 2) (by omega) _).set (o + 3) (by omega) _, grown_set (grown_set (grown_set (grown_set (grown_refl _ _) _ _) _ _) _ _) _ _⟩
      clear h hok HW1 HW2 HW3 HW4 H
      go_enter Try.func31, Try.ntmps31
      go_wp2_with fail
      first | go_end0 | go_ret
      exact ⟨rfl, _, HF.out⟩
    · have h2y : ¬ x < 2 := by omega
      have h2z : ¬ x ≤ 2 := by omega
      rw [Int.max_eq_left (by omega)]
      have HW1 := h.set1 x
      have HW2 := HW1.set0 x
      have HW3 := HW2.set2 0
      have HW4 := HW3.set3 next
      have d1 := HW1.cell
      have d2 := HW2.cell
      have d3 := HW3.cell
      have g1 := HW1.free
      have g2 := HW2.free
      have g3 := HW3.free
      obtain ⟨d10, d11, d12, d13⟩ := d1
      obtain ⟨d20, d21, d22, d23⟩ := d2
      obtain ⟨d30, d31, d32, d33⟩ := d3
      have HF : Hid (WinIn ((((w.setCell ⟨p, o + 1, none⟩ (.int .i64 x)).setCell ⟨p, o, none⟩ (.int .i64 x)).setCell ⟨p, o + 2, none⟩ (.int .i64 0)).setCell ⟨p, o + 3, none⟩ (.int .i64 next)) p o T ((((cur.setIfInBounds (o + 1) (.int .i64 x)).setIfInBounds o (.int .i64 x)).setIfInBounds (o + 2) (.int .i64 0)).setIfInBounds (o + 3) (.int .i64 next)) ⟨x, x, 0, next⟩ ∧ CurSame o cur ((((cur.setIfInBounds (o + 1) (.int .i64 x)).setIfInBounds o (.int .i64 x)).setIfInBounds (o + 2) (.int .i64 0)).setIfInBounds (o + 3) (.int .i64 next)) ∧ w.grownBy ((((w.setCell ⟨p, o + 1, none⟩ (.int .i64 x)).setCell ⟨p, o, none⟩ (.int .i64 x)).setCell ⟨p, o + 2, none⟩ (.int .i64 0)).setCell ⟨p, o + 3, none⟩ (.int .i64 next)) (some p)) :=
        ⟨HW4, ((((CurSame.refl o cur).set (o + 1) (by omega) _).set o (by omega) _).set (o + 2) (by omega) _).set (o + 3) (by omega) _, grown_set (grown_set (grown_set (grown_set (grown_refl _ _) _ _) _ _) _ _) _ _⟩
      clear h hok HW1 HW2 HW3 HW4 H
      go_enter Try.func31, Try.ntmps31
      go_wp2_with fail
      first | go_end0 | go_ret
      exact ⟨rfl, _, HF.out⟩

set_option maxRecDepth 100000 in
theorem new_any (w : World) : Calls Try.prog 20 #[] w fun e w' => e = .returned (.agg #[.int .i64 4, .int .i64 32, .int .i64 0, .int .i64 0]) ∧ Below w.heap.size w w' := by
  have HB : Hid (Below w.heap.size w (w.alloc (.cells #[.int .i64 4, .int .i64 32, .int .i64 0, .int .i64 0] 41))) := (Below.refl _ _).alloc (Nat.le_refl _) _
  have hh := heap_alloc_new w (.cells #[.int .i64 4, .int .i64 32, .int .i64 0, .int .i64 0] 41)
  have HH := Lib.hid hh
  clear hh
  go_enter Try.func20, Try.ntmps20
  go_wp2_with fail
  refine bodyPost_ret (results_cell_row rfl _ _ w.heap.size 41 _ (0, 0) _ rfl HH.out Try.underlying41 rfl (by kernel_rfl)) rfl ?_
  exact ⟨rfl, HB.out⟩
end Go.Proofs.Ytebfjphmlggacaa.Cg
