/- A call of three numbers in a block; plain facts of windows. Conditions: as each theorem lists them. -/
import Derived.Test.YtdfnhapclojecaaCe
set_option linter.unusedSimpArgs false
set_option linter.unusedVariables false
namespace Go.Proofs.Ytdfnhapclojecaa.Cg
open Go Go.RowKit Go.Proofs.Ytdfnhapclojecaa

def RawIn (w : World) (q : Nat) (x0 x1 x2 : Int) : Prop := w.heap[q]? = some (.cells #[.int .i64 x0, .int .i64 x1, .int .i64 x2] 33 (0, 0))
theorem RawIn.new (w : World) (x0 x1 x2 : Int) : RawIn (w.alloc (.cells #[.int .i64 x0, .int .i64 x1, .int .i64 x2] 33)) w.heap.size x0 x1 x2 := heap_alloc_new w _
theorem RawIn.lt {w : World} {q : Nat} {x0 x1 x2 : Int} (h : RawIn w q x0 x1 x2) : q < w.heap.size := lt_of_block h
theorem RawIn.kept {w w' : World} {q p : Nat} {x0 x1 x2 : Int} (h : RawIn w q x0 x1 x2) (hg : w.grownBy w' (some p)) (hne : q ≠ p) : RawIn w' q x0 x1 x2 := (hg.block q h.lt (by simpa using hne)).trans h
theorem RawIn.below {w w' : World} {q B : Nat} {x0 x1 x2 : Int} (h : RawIn w q x0 x1 x2) (hb : Below B w w') (hq : q < B) : RawIn w' q x0 x1 x2 := (hb.block q hq).trans h
theorem RawIn.cell {w : World} {q : Nat} {x0 x1 x2 : Int} (h : RawIn w q x0 x1 x2) : w.cell? ⟨q, 0, none⟩ = some (.int .i64 x0) ∧ w.cell? ⟨q, 1, none⟩ = some (.int .i64 x1) ∧ w.cell? ⟨q, 2, none⟩ = some (.int .i64 x2) := by
  unfold RawIn at h
  refine ⟨?_, ?_, ?_⟩ <;> simp [World.cell?, h]
theorem goodN_size {s : Win} (hok : OkW s) : ∀ n : Nat, s.size ≤ (goodN n s).size ∧ (goodN n s).size ≤ s.size + n ∧ (goodN n s).slow = s.slow ∧ (goodN n s).till = s.till := fun n => by
  induction n generalizing s with
  | zero => exact ⟨Int.le_refl _, by show s.size ≤ s.size + 0; omega, rfl, rfl⟩
  | succ n ih =>
    obtain ⟨h1, h2, h3, h4⟩ := ih hok.good
    have e : s.size ≤ (goodS s).size ∧ (goodS s).size ≤ s.size + 1 ∧ (goodS s).slow = s.slow ∧ (goodS s).till = s.till := by
      have s32 := hok.s32
      unfold goodS
      split
      · exact ⟨by show s.size ≤ min (s.size + 1) 32; omega, by show min (s.size + 1) 32 ≤ _; omega, rfl, rfl⟩
      · split
        · exact ⟨by show s.size ≤ min (s.size + 1) 32; omega, by show min (s.size + 1) 32 ≤ _; omega, rfl, rfl⟩
        · exact ⟨by show s.size ≤ min s.size 32; omega, by show min s.size 32 ≤ _; omega, rfl, rfl⟩
    show s.size ≤ (goodN n (goodS s)).size ∧ (goodN n (goodS s)).size ≤ s.size + ((n + 1 : Nat) : Int) ∧ (goodN n (goodS s)).slow = s.slow ∧ (goodN n (goodS s)).till = s.till
    refine ⟨by omega, by omega, h3.trans e.2.2.1, h4.trans e.2.2.2⟩
theorem badS_not {s : Win} {num next : Int} (h : num < s.till) : badS s num next = s := if_pos h
theorem badS_yes {s : Win} {num next : Int} (h : ¬ num < s.till) : badS s num next = ⟨max (s.size.tdiv 2) 2, max (s.size.tdiv 2) 2, 0, next⟩ := if_neg h
end Go.Proofs.Ytdfnhapclojecaa.Cg
