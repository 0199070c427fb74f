/- A window that lies alone in a block: made, loaded, compared. Conditions: as each theorem lists them. -/
import Derived.Test.YtdfnhapclojecaaCb
import Derived.Test.YtdfnhapclojecaaCd
import Derived.Test.YtdfnhapclojecaaCgKn
import Derived.Laws.StructEq
set_option linter.unusedSimpArgs false
set_option linter.unusedVariables false
namespace Go.Proofs.Ytdfnhapclojecaa.Cg
open Go Go.RowKit Go.Proofs.Ytdfnhapclojecaa

/-- A window that has block p for itself. -/
def SW (w : World) (p : Nat) (T : TypeId) (s : Win) : Prop := ∃ cur, WinIn w p 0 T cur s ∧ cur.size = 4
theorem SW.lt {w : World} {p : Nat} {T : TypeId} {s : Win} (h : SW w p T s) : p < w.heap.size := by
  obtain ⟨cur, h, _⟩ := h
  exact lt_of_block h.hp
theorem SW.new (w : World) (T : TypeId) (a b c d : Int) : SW (w.alloc (.cells #[.int .i64 a, .int .i64 b, .int .i64 c, .int .i64 d] T)) w.heap.size T ⟨a, b, c, d⟩ :=
  ⟨_, ⟨heap_alloc_new w _, rfl, rfl, rfl, rfl⟩, rfl⟩
theorem SW.kept {w w' : World} {p q : Nat} {T : TypeId} {s : Win} (h : SW w p T s) (hg : w.grownBy w' (some q)) (hne : p ≠ q) : SW w' p T s := by
  obtain ⟨cur, h, hc⟩ := h
  exact ⟨cur, h.kept hg (by simpa using hne), hc⟩
theorem SW.below {w w' : World} {p B : Nat} {T : TypeId} {s : Win} (h : SW w p T s) (hb : Below B w w') (hp : p < B) : SW w' p T s := by
  obtain ⟨cur, h, hc⟩ := h
  exact ⟨cur, ⟨(hb.block p hp).trans h.hp, h.c0, h.c1, h.c2, h.c3⟩, hc⟩
theorem SW.cell {w : World} {p : Nat} {T : TypeId} {s : Win} (h : SW w p T s) : (w.cell? ⟨p, 0, none⟩ = some (.int .i64 s.size) ∧ w.cell? ⟨p, 1, none⟩ = some (.int .i64 s.slow) ∧ w.cell? ⟨p, 2, none⟩ = some (.int .i64 s.part) ∧ w.cell? ⟨p, 3, none⟩ = some (.int .i64 s.till)) ∧ ∀ j, w.frozen? ⟨p, j, none⟩ = false := by
  obtain ⟨cur, h, _⟩ := h
  exact ⟨h.cell, h.free⟩
theorem SW.set1 {w : World} {p : Nat} {T : TypeId} {s : Win} (h : SW w p T s) (v : Int) : SW (w.setCell ⟨p, 1, none⟩ (.int .i64 v)) p T ⟨s.size, v, s.part, s.till⟩ ∧ w.grownBy (w.setCell ⟨p, 1, none⟩ (.int .i64 v)) (some p) := by
  obtain ⟨cur, h, hc⟩ := h
  exact ⟨⟨_, h.set1 v, by rw [Array.size_setIfInBounds]; exact hc⟩, grown_set (grown_refl _ _) _ _⟩
theorem SW.set2 {w : World} {p : Nat} {T : TypeId} {s : Win} (h : SW w p T s) (v : Int) : SW (w.setCell ⟨p, 2, none⟩ (.int .i64 v)) p T ⟨s.size, s.slow, v, s.till⟩ ∧ w.grownBy (w.setCell ⟨p, 2, none⟩ (.int .i64 v)) (some p) := by
  obtain ⟨cur, h, hc⟩ := h
  exact ⟨⟨_, h.set2 v, by rw [Array.size_setIfInBounds]; exact hc⟩, grown_set (grown_refl _ _) _ _⟩
def eqB (a b : Win) : Bool := a.size == b.size && (a.slow == b.slow && (a.part == b.part && a.till == b.till))
theorem eqB_refl (a : Win) : eqB a a = true := by simp [eqB]
theorem eqW (a b : Win) (w : World) : (Op.equalIn 10000 23 (.agg #[.int .i64 a.size, .int .i64 a.slow, .int .i64 a.part, .int .i64 a.till]) (.agg #[.int .i64 b.size, .int .i64 b.slow, .int .i64 b.part, .int .i64 b.till])).run Try.prog w = .ok (eqB a b) w := by
  obtain ⟨a1, a2, a3, a4⟩ := a
  obtain ⟨b1, b2, b3, b4⟩ := b
  simp only [eqB]
  have u3 := Try.underlying3
  have a3' := Try.isAgg3
  have z3 := Try.sizeOf3
  have hS : Try.prog.underlying 23 = some (.struct (Try.prog.fieldsOf 23)) := by kernel_rfl
  have hp : Try.prog.stoodInHeld 23 = false := by kernel_rfl
  rw [show (10000 : Nat) = 9999 + 1 from rfl, run_equalIn_agg w 9999 23 _ _ hS hp]
  simp only [Program.fieldsOf, Try.underlying23]
  go_simp
  by_cases h1 : a1 = b1 <;> by_cases h2 : a2 = b2 <;> by_cases h3 : a3 = b3 <;> by_cases h4 : a4 = b4 <;> simp [h1, h2, h3, h4]
theorem good_sw (w : World) (p : Nat) (T : TypeId) (s : Win) (h : SW w p T s) (hok : OkW s) (n : Int) (hn : -9223372036854775808 ≤ n ∧ n ≤ 9223372036854775807) :
    Calls Try.prog 8 #[.pointer (some ⟨p, 0, none⟩), .int .i64 n] w fun e w' => e = .returned (.tuple #[]) ∧ SW w' p T (goodN n.toNat s) ∧ w.grownBy w' (some p) := by
  obtain ⟨cur, h, hc⟩ := h
  refine (good_any w p 0 T cur s h hok n hn).mono ?_
  rintro e w' ⟨rfl, cur', h', hs, hg⟩
  exact ⟨rfl, ⟨cur', h', hs.1.trans hc⟩, hg⟩
theorem bad_sw (w : World) (p : Nat) (T : TypeId) (s : Win) (h : SW w p T s) (hok : OkW s) (num next : Int) :
    Calls Try.prog 9 #[.pointer (some ⟨p, 0, none⟩), .int .i64 num, .int .i64 next] w fun e w' => e = .returned (.tuple #[]) ∧ SW w' p T (badS s num next) ∧ w.grownBy w' (some p) := by
  obtain ⟨cur, h, hc⟩ := h
  refine (bad_any w p 0 T cur s h hok num next).mono ?_
  rintro e w' ⟨rfl, cur', h', hs, hg⟩
  exact ⟨rfl, ⟨cur', h', hs.1.trans hc⟩, hg⟩
theorem fits_sw (w : World) (p : Nat) (T : TypeId) (s : Win) (h : SW w p T s) (n : Int) :
    Calls Try.prog 15 #[.pointer (some ⟨p, 0, none⟩), .int .i64 n] w fun e w' => e = .returned (.bool (decide (n < s.size))) ∧ w' = w := by
  obtain ⟨cur, h, hc⟩ := h
  exact fits_any w p 0 T cur s h n
end Go.Proofs.Ytdfnhapclojecaa.Cg
