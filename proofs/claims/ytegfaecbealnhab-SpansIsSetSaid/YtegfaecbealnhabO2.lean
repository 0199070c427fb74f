/- SpansOrders: the loop's round. Conditions: as each theorem lists them. -/
import Derived.Test.YtegfaecbealnhabO1
import Derived.BigGuardPart
namespace Go.Proofs.Ytegfaecbealnhab.Orders
open Go Go.RowKit

/-- What the four sets have of the first j calls. -/
def Inv (zs : List Int) (n k p0 p1 p2 p3 : Nat) (w wr : World) (j : Nat) : Prop :=
  ∃ ea eb ec ed, (SetIn wr p0 ea ∧ SetIn wr p1 eb ∧ SetIn wr p2 ec ∧ SetIn wr p3 ed) ∧ (Sm 90 ea ∧ Sm 90 eb ∧ Sm 90 ec ∧ Sm 90 ed) ∧
    (∀ x, mem ea x = (List.range j).any fun i => inRun x (runAt zs 80 90 i)) ∧ (∀ x, mem eb x = (List.range j).any fun i => inRun x (runAt zs 80 90 ((i + k) % n))) ∧
    (∀ x, mem ec x = (List.range j).any fun i => decide (i < k) && inRun x (runAt zs 80 90 i)) ∧ (∀ x, mem ed x = (List.range j).any fun i => !decide (i < k) && inRun x (runAt zs 80 90 i)) ∧ Below p0 w wr

/-- Four sets and two raws' fields, in memory. -/
structure Hold (p0 p1 p2 p3 px py : Nat) (x1 x2 y1 y2 : Int) (w wr : World) (ea eb ec ed : List Int) : Prop where
  a : SetIn wr p0 ea
  b : SetIn wr p1 eb
  c : SetIn wr p2 ec
  d : SetIn wr p3 ed
  x1 : wr.cell? ⟨px, 1, none⟩ = some (.int .i64 x1)
  x2 : wr.cell? ⟨px, 2, none⟩ = some (.int .i64 x2)
  y1 : wr.cell? ⟨py, 1, none⟩ = some (.int .i64 y1)
  y2 : wr.cell? ⟨py, 2, none⟩ = some (.int .i64 y2)
  be : Below p0 w wr
  lt : p0 < p1 ∧ p1 < p2 ∧ p2 < p3 ∧ p3 < px ∧ px < py ∧ py < wr.heap.size
  sm : Sm 90 ea ∧ Sm 90 eb ∧ Sm 90 ec ∧ Sm 90 ed

theorem Hold.putA {p0 p1 p2 p3 px py : Nat} {x1 x2 y1 y2 : Int} {w wr wy : World} {ea eb ec ed es : List Int} (h : Hold p0 p1 p2 p3 px py x1 x2 y1 y2 w wr ea eb ec ed) (h1 : SetIn wy p0 es) (h2 : wr.grownBy wy (some p0)) (h3 : Sm 90 es) : Hold p0 p1 p2 p3 px py x1 x2 y1 y2 w wy es eb ec ed := by
  obtain ⟨l1, l2, l3, l4, l5, l6⟩ := h.lt
  exact ⟨h1, h.b.but h2 h.a (by omega), h.c.but h2 h.a (by omega), h.d.but h2 h.a (by omega), h2.cell h.x1 (by simp; omega), h2.cell h.x2 (by simp; omega), h2.cell h.y1 (by simp; omega), h2.cell h.y2 (by simp; omega), h.be.trans (grown_below h2 (Nat.le_of_lt h.a.lt) (Nat.le_refl _)), ⟨l1, l2, l3, l4, l5, Nat.lt_of_lt_of_le l6 h2.size⟩, h3, h.sm.2.1, h.sm.2.2.1, h.sm.2.2.2⟩
theorem Hold.putB {p0 p1 p2 p3 px py : Nat} {x1 x2 y1 y2 : Int} {w wr wy : World} {ea eb ec ed es : List Int} (h : Hold p0 p1 p2 p3 px py x1 x2 y1 y2 w wr ea eb ec ed) (h1 : SetIn wy p1 es) (h2 : wr.grownBy wy (some p1)) (h3 : Sm 90 es) : Hold p0 p1 p2 p3 px py x1 x2 y1 y2 w wy ea es ec ed := by
  obtain ⟨l1, l2, l3, l4, l5, l6⟩ := h.lt
  exact ⟨h.a.but h2 h.b (by omega), h1, h.c.but h2 h.b (by omega), h.d.but h2 h.b (by omega), h2.cell h.x1 (by simp; omega), h2.cell h.x2 (by simp; omega), h2.cell h.y1 (by simp; omega), h2.cell h.y2 (by simp; omega), h.be.trans (grown_below h2 (Nat.le_of_lt h.a.lt) (by omega)), ⟨l1, l2, l3, l4, l5, Nat.lt_of_lt_of_le l6 h2.size⟩, h.sm.1, h3, h.sm.2.2.1, h.sm.2.2.2⟩
theorem Hold.putC {p0 p1 p2 p3 px py : Nat} {x1 x2 y1 y2 : Int} {w wr wy : World} {ea eb ec ed es : List Int} (h : Hold p0 p1 p2 p3 px py x1 x2 y1 y2 w wr ea eb ec ed) (h1 : SetIn wy p2 es) (h2 : wr.grownBy wy (some p2)) (h3 : Sm 90 es) : Hold p0 p1 p2 p3 px py x1 x2 y1 y2 w wy ea eb es ed := by
  obtain ⟨l1, l2, l3, l4, l5, l6⟩ := h.lt
  exact ⟨h.a.but h2 h.c (by omega), h.b.but h2 h.c (by omega), h1, h.d.but h2 h.c (by omega), h2.cell h.x1 (by simp; omega), h2.cell h.x2 (by simp; omega), h2.cell h.y1 (by simp; omega), h2.cell h.y2 (by simp; omega), h.be.trans (grown_below h2 (Nat.le_of_lt h.a.lt) (by omega)), ⟨l1, l2, l3, l4, l5, Nat.lt_of_lt_of_le l6 h2.size⟩, h.sm.1, h.sm.2.1, h3, h.sm.2.2.2⟩
theorem Hold.putD {p0 p1 p2 p3 px py : Nat} {x1 x2 y1 y2 : Int} {w wr wy : World} {ea eb ec ed es : List Int} (h : Hold p0 p1 p2 p3 px py x1 x2 y1 y2 w wr ea eb ec ed) (h1 : SetIn wy p3 es) (h2 : wr.grownBy wy (some p3)) (h3 : Sm 90 es) : Hold p0 p1 p2 p3 px py x1 x2 y1 y2 w wy ea eb ec es := by
  obtain ⟨l1, l2, l3, l4, l5, l6⟩ := h.lt
  exact ⟨h.a.but h2 h.d (by omega), h.b.but h2 h.d (by omega), h.c.but h2 h.d (by omega), h1, h2.cell h.x1 (by simp; omega), h2.cell h.x2 (by simp; omega), h2.cell h.y1 (by simp; omega), h2.cell h.y2 (by simp; omega), h.be.trans (grown_below h2 (Nat.le_of_lt h.a.lt) (by omega)), ⟨l1, l2, l3, l4, l5, Nat.lt_of_lt_of_le l6 h2.size⟩, h.sm.1, h.sm.2.1, h.sm.2.2.1, h3⟩
theorem Hold.drew {p0 p1 p2 p3 px py : Nat} {x1 x2 y1 y2 : Int} {w wr : World} {ea eb ec ed : List Int} (h : Hold p0 p1 p2 p3 px py x1 x2 y1 y2 w wr ea eb ec ed) : Hold p0 p1 p2 p3 px py x1 x2 y1 y2 w wr.drew ea eb ec ed :=
  ⟨h.a, h.b, h.c, h.d, h.x1, h.x2, h.y1, h.y2, h.be.drew, h.lt, h.sm⟩

/-- Four sets in memory. -/
structure Four (p0 p1 p2 p3 : Nat) (w : World) (e0 e1 e2 e3 : List Int) : Prop where
  s0 : SetIn w p0 e0
  s1 : SetIn w p1 e1
  s2 : SetIn w p2 e2
  s3 : SetIn w p3 e3
  lt : p0 < p1 ∧ p1 < p2 ∧ p2 < p3
theorem Four.below {p0 p1 p2 p3 : Nat} {w w' : World} {e0 e1 e2 e3 : List Int} (h : Four p0 p1 p2 p3 w e0 e1 e2 e3) (hb : Below w.heap.size w w') : Four p0 p1 p2 p3 w' e0 e1 e2 e3 := ⟨h.s0.below hb, h.s1.below hb, h.s2.below hb, h.s3.below hb, h.lt⟩
theorem Four.put3 {p0 p1 p2 p3 : Nat} {w w' : World} {e0 e1 e2 e3 es : List Int} (h : Four p0 p1 p2 p3 w e0 e1 e2 e3) (h1 : SetIn w' p3 es) (h2 : w.grownBy w' (some p3)) : Four p0 p1 p2 p3 w' e0 e1 e2 es := by
  have := h.lt
  exact ⟨h.s0.but h2 h.s3 (by omega), h.s1.but h2 h.s3 (by omega), h.s2.but h2 h.s3 (by omega), h1, h.lt⟩
end Go.Proofs.Ytegfaecbealnhab.Orders
