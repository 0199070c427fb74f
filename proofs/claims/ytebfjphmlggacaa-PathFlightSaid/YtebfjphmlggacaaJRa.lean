/- Rtt in memory, at any place of any block; the program's calls. Conditions: as each theorem lists them. -/
import Derived.Test.YtebfjphmlggacaaJRp
import Derived.Test.YtebfjphmlggacaaJH1
import Derived.Below
import Derived.WalkKit
import Derived.WalkLawsBesides
import Derived.Lib.Hide
import Derived.IntWalk
set_option linter.unusedSimpArgs false
set_option linter.unusedVariables false

namespace Go.Proofs.Ytebfjphmlggacaa.Rtt
open Go Go.RowKit

theorem slot_cell {w : World} {p o : Nat} {T : TypeId} {cur : Array Value} {v : Value} (h : w.heap[p]? = some (.cells cur T (0, 0))) (ho : cur[o]? = some v) : w.cell? ⟨p, o, none⟩ = some v := by simp [World.cell?, h, ho]
theorem slot_free {w : World} {p o : Nat} {T : TypeId} {cur : Array Value} (h : w.heap[p]? = some (.cells cur T (0, 0))) : w.frozen? ⟨p, o, none⟩ = false := by simp [World.frozen?, h]
theorem slot_lt {w : World} {p : Nat} {x : Obj} (h : w.heap[p]? = some x) : p < w.heap.size := (Array.getElem?_eq_some_iff.1 h).1
theorem slot_put {w : World} {p : Nat} {T : TypeId} {cur : Array Value} (h : w.heap[p]? = some (.cells cur T (0, 0))) (o : Nat) (u : Value) : (w.setCell ⟨p, o, none⟩ u).heap[p]? = some (.cells (cur.setIfInBounds o u) T (0, 0)) := by
  have hlt := slot_lt h
  have h' : w.heap[p] = .cells cur T (0, 0) := by simpa [Array.getElem?_eq_getElem hlt] using h
  show (w.heap.modify p _)[p]? = _
  rw [Array.getElem?_eq_getElem (by simpa using hlt), Array.getElem_modify_self, h']
  rfl
theorem put_same {cur : Array Value} {o : Nat} {v u : Value} (h : cur[o]? = some v) : (cur.setIfInBounds o u)[o]? = some u := by
  have := (Array.getElem?_eq_some_iff.1 h).1
  simp [this]
theorem put_other {cur : Array Value} {o j : Nat} {u : Value} (h : j ≠ o) : (cur.setIfInBounds j u)[o]? = cur[o]? := by
  simp [Array.getElem?_setIfInBounds, h]

/-- The four cells. -/
structure RtAt (cur : Array Value) (o : Nat) (s : RS) : Prop where
  c0 : cur[o]? = some (.int .i64 s.sm)
  c1 : cur[o + 1]? = some (.int .i64 s.va)
  c2 : cur[o + 2]? = some (.int .i64 s.bk)
  c3 : cur[o + 3]? = some (.bool s.so)
/-- A round's estimate, in block p from o on; the block's other cells are of whatever kind. -/
def RtIn (w : World) (p o : Nat) (T : TypeId) (cur : Array Value) (s : RS) : Prop := w.heap[p]? = some (.cells cur T (0, 0)) ∧ RtAt cur o s
/-- The block has changed there alone. -/
def Same4 (cur cur' : Array Value) (o : Nat) : Prop := cur'.size = cur.size ∧ ∀ j, j < o ∨ o + 4 ≤ j → cur'[j]? = cur[j]?
def RtTo (w w' : World) (p o : Nat) (T : TypeId) (cur : Array Value) (s : RS) : Prop := ∃ cur', RtIn w' p o T cur' s ∧ Same4 cur cur' o ∧ w.grownBy w' (some p)

theorem RtIn.cells {w : World} {p o : Nat} {T : TypeId} {cur : Array Value} {s : RS} (h : RtIn w p o T cur s) : w.cell? ⟨p, o, none⟩ = some (.int .i64 s.sm) ∧ w.cell? ⟨p, o + 1, none⟩ = some (.int .i64 s.va) ∧ w.cell? ⟨p, o + 2, none⟩ = some (.int .i64 s.bk) ∧ w.cell? ⟨p, o + 3, none⟩ = some (.bool s.so) ∧ ∀ k, w.frozen? ⟨p, k, none⟩ = false :=
  ⟨slot_cell h.1 h.2.c0, slot_cell h.1 h.2.c1, slot_cell h.1 h.2.c2, slot_cell h.1 h.2.c3, fun _ => slot_free h.1⟩
theorem RtIn.here {w : World} {p o : Nat} {T : TypeId} {cur : Array Value} {s : RS} (h : RtIn w p o T cur s) : RtTo w w p o T cur s := ⟨cur, h, ⟨rfl, fun _ _ => rfl⟩, ⟨rfl, rfl, rfl, Nat.le_refl _, fun _ _ _ => rfl⟩⟩
theorem grown_put {a w : World} {p o : Nat} {u : Value} (h : a.grownBy w (some p)) : a.grownBy (w.setCell ⟨p, o, none⟩ u) (some p) :=
  ⟨h.os, h.tape, h.output, by simpa [World.setCell] using h.size, fun k hk hne => (Below.heap_setCell _ _ _ _ (fun e => hne (by simp [e]))).trans (h.block k hk hne)⟩
theorem Same4.put {cur cur' : Array Value} {o j : Nat} {u : Value} (h : Same4 cur cur' o) (h1 : o ≤ j) (h2 : j < o + 4) : Same4 cur (cur'.setIfInBounds j u) o :=
  ⟨by rw [Array.size_setIfInBounds]; exact h.1, fun k hk => (put_other (by omega)).trans (h.2 k hk)⟩
theorem RtTo.drew {w w' : World} {p o : Nat} {T : TypeId} {cur : Array Value} {s : RS} (h : RtTo w w' p o T cur s) : RtTo w w'.drew p o T cur s := by
  obtain ⟨c, h1, h2, h3⟩ := h
  exact ⟨c, h1, h2, ⟨h3.os, h3.tape, h3.output, h3.size, h3.block⟩⟩
theorem RtTo.sm {w w' : World} {p o : Nat} {T : TypeId} {cur : Array Value} {s : RS} (h : RtTo w w' p o T cur s) (a : Int) : RtTo w (w'.setCell ⟨p, o, none⟩ (.int .i64 a)) p o T cur ⟨a, s.va, s.bk, s.so⟩ := by
  obtain ⟨c, ⟨h0, h1⟩, h2, h3⟩ := h
  exact ⟨_, ⟨slot_put h0 _ _, ⟨put_same h1.c0, (put_other (by omega)).trans h1.c1, (put_other (by omega)).trans h1.c2, (put_other (by omega)).trans h1.c3⟩⟩, h2.put (by omega) (by omega), grown_put h3⟩
theorem RtTo.va {w w' : World} {p o : Nat} {T : TypeId} {cur : Array Value} {s : RS} (h : RtTo w w' p o T cur s) (a : Int) : RtTo w (w'.setCell ⟨p, o + 1, none⟩ (.int .i64 a)) p o T cur ⟨s.sm, a, s.bk, s.so⟩ := by
  obtain ⟨c, ⟨h0, h1⟩, h2, h3⟩ := h
  exact ⟨_, ⟨slot_put h0 _ _, ⟨(put_other (by omega)).trans h1.c0, put_same h1.c1, (put_other (by omega)).trans h1.c2, (put_other (by omega)).trans h1.c3⟩⟩, h2.put (by omega) (by omega), grown_put h3⟩
theorem RtTo.bk {w w' : World} {p o : Nat} {T : TypeId} {cur : Array Value} {s : RS} (h : RtTo w w' p o T cur s) (a : Int) : RtTo w (w'.setCell ⟨p, o + 2, none⟩ (.int .i64 a)) p o T cur ⟨s.sm, s.va, a, s.so⟩ := by
  obtain ⟨c, ⟨h0, h1⟩, h2, h3⟩ := h
  exact ⟨_, ⟨slot_put h0 _ _, ⟨(put_other (by omega)).trans h1.c0, (put_other (by omega)).trans h1.c1, put_same h1.c2, (put_other (by omega)).trans h1.c3⟩⟩, h2.put (by omega) (by omega), grown_put h3⟩
theorem RtTo.so {w w' : World} {p o : Nat} {T : TypeId} {cur : Array Value} {s : RS} (h : RtTo w w' p o T cur s) (a : Bool) : RtTo w (w'.setCell ⟨p, o + 3, none⟩ (.bool a)) p o T cur ⟨s.sm, s.va, s.bk, a⟩ := by
  obtain ⟨c, ⟨h0, h1⟩, h2, h3⟩ := h
  exact ⟨_, ⟨slot_put h0 _ _, ⟨(put_other (by omega)).trans h1.c0, (put_other (by omega)).trans h1.c1, (put_other (by omega)).trans h1.c2, put_same h1.c3⟩⟩, h2.put (by omega) (by omega), grown_put h3⟩
theorem RtTo.state {w w' : World} {p o : Nat} {T : TypeId} {cur : Array Value} {s s' : RS} (h : RtTo w w' p o T cur s) (e : s = s') : RtTo w w' p o T cur s' := e ▸ h
theorem RtTo.trans {w w1 w2 : World} {p o : Nat} {T : TypeId} {cur cur1 : Array Value} {s1 s2 : RS} (h1 : RtIn w1 p o T cur1 s1 ∧ Same4 cur cur1 o ∧ w.grownBy w1 (some p)) (h2 : RtTo w1 w2 p o T cur1 s2) : RtTo w w2 p o T cur s2 := by
  obtain ⟨_, b1, b2⟩ := h1
  obtain ⟨c, a0, a1, a2⟩ := h2
  exact ⟨c, a0, ⟨a1.1.trans b1.1, fun j hj => (a1.2 j hj).trans (b1.2 j hj)⟩, ⟨a2.os.trans b2.os, a2.tape.trans b2.tape, a2.output.trans b2.output, Nat.le_trans b2.size a2.size, fun g hg hne => (a2.block g (Nat.lt_of_lt_of_le hg b2.size) hne).trans (b2.block g hg hne)⟩⟩

theorem sat_any (n a b : Int) (w : World) :
    Calls Try.prog 47 #[.int .i64 n, .int .i64 a, .int .i64 b] w fun e w' => e = .returned (.int .i64 (min (max n a) b)) ∧ w = w' := by
  go_enter Try.func47, Try.ntmps47
  go_wp2
  all_goals go_ret
  all_goals exact ⟨ret_int (by omega), rfl⟩

theorem away_any (a b : Int) (w : World) (h1 : 0 ≤ a) (h2 : a ≤ 8007) (h3 : 0 ≤ b) (h4 : b ≤ 8007) :
    Calls Try.prog 65 #[.int .i64 a, .int .i64 b] w fun e w' => e = .returned (.int .i64 (far a b)) ∧ w = w' := by
  go_enter Try.func65, Try.ntmps65
  go_wp2
  all_goals go_ret
  all_goals exact ⟨ret_int (by unfold far; omega), rfl⟩

theorem round_any (s : RS) (hs : Good s) (p o : Nat) (T : TypeId) (cur : Array Value) (w : World) (h : RtIn w p o T cur s) :
    Calls Try.prog 10 #[.pointer (some ⟨p, o, none⟩)] w fun e w' => e = .returned (.int .i64 (roundF s)) ∧ w' = w := by
  obtain ⟨hc0, _, _, hc3, _⟩ := h.cells
  have h0 := hs.lo
  have h1 := hs.hi
  have HR : Hid (roundF s = if s.so = true then max 1 (s.sm / 8) else 4) := rfl
  obtain ⟨r, hr⟩ : ∃ r, Hid (roundF s = r) := ⟨_, rfl⟩
  rw [hr.out] at HR ⊢
  obtain ⟨sm, va, bk, so⟩ := s
  dsimp only at hc0 hc3 h0 h1 HR
  cases so
  all_goals
    go_enter Try.func10, Try.ntmps10
    go_wp2
    all_goals go_ret
    all_goals exact ⟨ret_int (by have := HR.out; simp at this; omega), rfl⟩

theorem spread_any (s : RS) (hs : Good s) (p o : Nat) (T : TypeId) (cur : Array Value) (w : World) (h : RtIn w p o T cur s) :
    Calls Try.prog 55 #[.pointer (some ⟨p, o, none⟩)] w fun e w' => e = .returned (.int .i64 (spreadF s)) ∧ w' = w := by
  obtain ⟨_, hc1, _, hc3, _⟩ := h.cells
  have h0 := hs.v0
  have h1 := hs.v1
  have HR : Hid (spreadF s = if s.so = true then max 1 s.va else 4) := rfl
  obtain ⟨r, hr⟩ : ∃ r, Hid (spreadF s = r) := ⟨_, rfl⟩
  rw [hr.out] at HR ⊢
  obtain ⟨sm, va, bk, so⟩ := s
  dsimp only at hc1 hc3 h0 h1 HR
  cases so
  all_goals
    go_enter Try.func55, Try.ntmps55
    go_wp2
    all_goals go_ret
    all_goals exact ⟨ret_int (by have := HR.out; simp at this; omega), rfl⟩
end Go.Proofs.Ytebfjphmlggacaa.Rtt
