/- Joined texts. The ledger in memory: packets that were sent, a row of pointers that may begin anywhere, the ledger's four cells. Conditions: as each theorem lists them. The ledger's small calls: Next, Acked, Flight, whatever, aged, trim. Conditions: as each theorem lists them. The ledger's trim; the closure of Lose. Conditions: as each theorem lists them. What leaves the ledger, plainly; what the ledger's leave does. Conditions: as each theorem lists them. -/
import Derived.Test.YtebfjphmlggacaaGreatJSc
set_option linter.unusedSimpArgs false
set_option linter.unusedVariables false

namespace Go.Proofs.YtebfjphmlggacaaGreat.Ld
open Go Go.RowKit Go.Proofs.YtebfjphmlggacaaGreat Go.Proofs.YtebfjphmlggacaaGreat.Sp

/-- A packet that was sent: its number, when, whether it elicits, where its frames lie. -/
structure Pk where
  num : Nat
  at' : Int
  el : Bool
  fa : Option Addr
  fn : Nat
  fc : Nat
def Pk.cells (k : Pk) : Array Value := #[.int .i64 (k.num : Int), .int .i64 k.at', .bool k.el, .slice k.fa k.fn k.fc]
def pks (l : List Pk) : List Value := l.flatMap fun k => k.cells.toList
theorem pks_app (a b : List Pk) : pks (a ++ b) = pks a ++ pks b := by simp [pks]
theorem pks_len : ∀ l : List Pk, (pks l).length = l.length * 4
  | [] => rfl
  | k :: r => by
    show (k.cells.toList ++ pks r).length = (r.length + 1) * 4
    rw [List.length_append, pks_len r]
    show 4 + _ = _
    omega
theorem ones_pks (l : List Pk) : ones (pks l) := fun u hu => by
  simp only [pks, List.mem_flatMap] at hu
  obtain ⟨k, _, hu⟩ := hu
  simp only [Pk.cells, List.mem_cons, List.not_mem_nil, or_false] at hu
  rcases hu with rfl | rfl | rfl | rfl <;> rfl
theorem pks_get : ∀ (l : List Pk) (i : Nat) (k : Pk), l[i]? = some k → ∀ j, j < 4 → (pks l)[i * 4 + j]? = k.cells.toList[j]?
  | [], i, k, h, _, _ => by simp at h
  | x :: r, 0, k, h, j, hj => by
    simp only [List.length_cons, List.getElem?_cons_zero, Option.some.injEq] at h
    subst h
    show (x.cells.toList ++ pks r)[0 * 4 + j]? = _
    rw [Nat.zero_mul, Nat.zero_add, List.getElem?_append_left (by show j < 4; exact hj)]
  | x :: r, i + 1, k, h, j, hj => by
    show (x.cells.toList ++ pks r)[(i + 1) * 4 + j]? = _
    rw [List.getElem?_append_right (by show 4 ≤ _; omega)]
    rw [show (i + 1) * 4 + j - x.cells.toList.length = i * 4 + j by show _ - 4 = _; omega]
    exact pks_get r i k (by simpa using h) j hj

/-- A pointer to a packet, or nil. -/
def PtrOk (w : World) (lo hi : Nat) (v : Value) : Option Pk → Prop
  | none => v = .pointer none
  | some k => ∃ b, v = .pointer (some ⟨b, 0, none⟩) ∧ lo ≤ b ∧ b < hi ∧ w.heap[b]? = some (.cells k.cells 75 (0, 0))
theorem PtrOk.mono {w w' : World} {lo hi hi' : Nat} {v : Value} {u : Option Pk} (h : PtrOk w lo hi v u) (hh : hi ≤ hi') (hb : ∀ b, b < hi → (∃ cs, w.heap[b]? = some (.cells cs 75 (0, 0))) → w'.heap[b]? = w.heap[b]?) : PtrOk w' lo hi' v u := by
  cases u with
  | none => exact h
  | some k =>
    obtain ⟨b, e, h1, h2, h3⟩ := h
    exact ⟨b, e, h1, Nat.lt_of_lt_of_le h2 hh, (hb b h2 ⟨_, h3⟩).trans h3⟩

/-- A row of such pointers, wherever in its block it begins. -/
def RowIn (w : World) (lo hi : Nat) (A : Option Addr) (c : Nat) (os : List (Option Pk)) : Prop :=
  os.length ≤ c ∧ c ≤ maxLen ∧ ((A = none ∧ c = 0) ∨ ∃ g off row, A = some ⟨g, off, none⟩ ∧ lo ≤ g ∧ g < hi ∧ w.heap[g]? = some (.cells row 107 (0, 0)) ∧ off + c ≤ row.size ∧ ∀ i u, os[i]? = some u → ∃ v, row[off + i]? = some v ∧ PtrOk w lo hi v u)

theorem RowIn.mono {w w' : World} {lo hi hi' : Nat} {A : Option Addr} {c : Nat} {os : List (Option Pk)} (h : RowIn w lo hi A c os) (hh : hi ≤ hi') (hb : ∀ b, b < hi → (∃ cs t, (t = 75 ∨ t = 107) ∧ w.heap[b]? = some (.cells cs t (0, 0))) → w'.heap[b]? = w.heap[b]?) : RowIn w' lo hi' A c os := by
  obtain ⟨h1, h2, h3⟩ := h
  refine ⟨h1, h2, ?_⟩
  rcases h3 with h3 | ⟨g, off, row, e, hl, hg, hr, hs, hc⟩
  · exact .inl h3
  · refine .inr ⟨g, off, row, e, hl, Nat.lt_of_lt_of_le hg hh, (hb g hg ⟨_, _, .inr rfl, hr⟩).trans hr, hs, fun i u hu => ?_⟩
    obtain ⟨v, hv, hp⟩ := hc i u hu
    exact ⟨v, hv, hp.mono hh fun b hb' ⟨cs, hcs⟩ => hb b hb' ⟨cs, _, .inl rfl, hcs⟩⟩

/-- The ledger: four cells at place o of block p. -/
structure LedIn (w : World) (lo hi p o : Nat) (T : TypeId) (cur : Array Value) (os : List (Option Pk)) (fl next behind : Nat) : Prop where
  hlo : lo ≤ p
  hhi : p < hi
  hsz : hi ≤ w.heap.size
  hT : T ≠ 107 ∧ T ≠ 75
  hp : w.heap[p]? = some (.cells cur T (0, 0))
  row : ∃ A c, cur[o]? = some (.slice A os.length c) ∧ RowIn w lo hi A c os
  c1 : cur[o + 1]? = some (.int .i64 (next : Int))
  c2 : cur[o + 2]? = some (.int .i64 (behind : Int))
  c3 : cur[o + 3]? = some (.int .i64 (fl : Int))
  len : os.length ≤ next
  nums : ∀ i k, os[i]? = some (some k) → k.num + os.length = next + i
  beh : behind ≤ next

/-- Outside the ledger's four cells nothing of the block has turned. -/
def CurSame (o : Nat) (cur cur' : Array Value) : Prop := cur'.size = cur.size ∧ ∀ j, (j < o ∨ o + 4 ≤ j) → cur'[j]? = cur[j]?
theorem CurSame.refl (o : Nat) (cur : Array Value) : CurSame o cur cur := ⟨rfl, fun _ _ => rfl⟩
theorem CurSame.trans {o : Nat} {a b c : Array Value} (h : CurSame o a b) (k : CurSame o b c) : CurSame o a c := ⟨k.1.trans h.1, fun j hj => (k.2 j hj).trans (h.2 j hj)⟩
theorem CurSame.set {o : Nat} {a b : Array Value} (h : CurSame o a b) (j : Nat) (hj : o ≤ j ∧ j < o + 4) (u : Value) : CurSame o a (b.setIfInBounds j u) :=
  ⟨by rw [Array.size_setIfInBounds]; exact h.1, fun i hi => by rw [slot_other (by omega)]; exact h.2 i hi⟩

/-- What may have turned: block p, rows of pointers to packets; nothing below lo. -/
structure Moved (lo p : Nat) (w w' : World) : Prop where
  below : Below lo w w'
  kept : ∀ k, k < w.heap.size → k ≠ p → (∀ row, w.heap[k]? ≠ some (.cells row 107 (0, 0))) → w'.heap[k]? = w.heap[k]?
theorem Moved.refl (lo p : Nat) (w : World) : Moved lo p w w := ⟨Below.refl _ _, fun _ _ _ _ => rfl⟩
theorem Moved.trans {lo p : Nat} {a b c : World} (h : Moved lo p a b) (k : Moved lo p b c) : Moved lo p a c :=
  ⟨h.below.trans k.below, fun i hi hp hr => by
    have e := h.kept i hi hp hr
    exact (k.kept i (Nat.lt_of_lt_of_le hi h.below.size) hp (fun row => by rw [e]; exact hr row)).trans e⟩
theorem Moved.of {lo p : Nat} {w w' : World} (h : Below w.heap.size w w') (hlo : lo ≤ w.heap.size) : Moved lo p w w' := ⟨h.mono hlo, fun k hk _ _ => h.block k hk⟩
theorem Moved.upper {lo p : Nat} {w a b : World} (h : Moved lo p w a) (hb : Below w.heap.size a b) (hlo : lo ≤ w.heap.size) : Moved lo p w b := ⟨h.below.trans (hb.mono hlo), fun k hk hp hr => (hb.block k hk).trans (h.kept k hk hp hr)⟩
theorem Moved.lower {lo lo' p : Nat} {w w' : World} (h : Moved lo p w w') (hl : lo' ≤ lo) : Moved lo' p w w' := ⟨h.below.mono hl, h.kept⟩
theorem Moved.setP {lo p : Nat} {a w : World} (h : Moved lo p a w) (hlo : lo ≤ p) (j : Nat) (u : Value) : Moved lo p a (w.setCell ⟨p, j, none⟩ u) :=
  h.trans ⟨(Below.refl _ _).setCell hlo u, fun k _ hp _ => Below.heap_setCell _ _ _ _ hp⟩
theorem Moved.setRow {lo p g : Nat} {a w : World} {row : Array Value} (h : Moved lo p a w) (hlo : lo ≤ g) (hg : w.heap[g]? = some (.cells row 107 (0, 0))) (j : Nat) (u : Value) : Moved lo p a (w.setCell ⟨g, j, none⟩ u) :=
  h.trans ⟨(Below.refl _ _).setCell hlo u, fun k _ _ hr => Below.heap_setCell _ _ _ _ (fun e => by subst e; exact hr row hg)⟩

section
variable {w w' : World} {lo hi p o : Nat} {T : TypeId} {cur : Array Value} {os : List (Option Pk)} {fl next behind : Nat}

theorem LedIn.keep (h : LedIn w lo hi p o T cur os fl next behind) (hb : Below hi w w') : LedIn w' lo hi p o T cur os fl next behind := by
  obtain ⟨A, c, e, hr⟩ := h.row
  exact ⟨h.hlo, h.hhi, Nat.le_trans h.hsz hb.size, h.hT, (hb.block p h.hhi).trans h.hp, ⟨A, c, e, hr.mono (Nat.le_refl _) fun b hbb _ => hb.block b hbb⟩, h.c1, h.c2, h.c3, h.len, h.nums, h.beh⟩
theorem LedIn.more {hi' : Nat} (h : LedIn w lo hi p o T cur os fl next behind) (hh : hi ≤ hi') (hs : hi' ≤ w.heap.size) : LedIn w lo hi' p o T cur os fl next behind := by
  obtain ⟨A, c, e, hr⟩ := h.row
  exact ⟨h.hlo, Nat.lt_of_lt_of_le h.hhi hh, hs, h.hT, h.hp, ⟨A, c, e, hr.mono hh fun b _ _ => rfl⟩, h.c1, h.c2, h.c3, h.len, h.nums, h.beh⟩

/-- A cell of the ledger, as the walk asks for it. -/
theorem LedIn.cell (h : LedIn w lo hi p o T cur os fl next behind) : w.cell? ⟨p, o + 1, none⟩ = some (.int .i64 (next : Int)) ∧ w.cell? ⟨p, o + 2, none⟩ = some (.int .i64 (behind : Int)) ∧ w.cell? ⟨p, o + 3, none⟩ = some (.int .i64 (fl : Int)) :=
  ⟨cell_slot h.hp h.c1, cell_slot h.hp h.c2, cell_slot h.hp h.c3⟩
theorem LedIn.free (h : LedIn w lo hi p o T cur os fl next behind) (j : Nat) : w.frozen? ⟨p, j, none⟩ = false := free_slot h.hp

/-- A cell of block p is written: the row stays. -/
theorem LedIn.row_setP (h : LedIn w lo hi p o T cur os fl next behind) (j : Nat) (u : Value) {A : Option Addr} {c : Nat} {os' : List (Option Pk)} (hr : RowIn w lo hi A c os') : RowIn (w.setCell ⟨p, j, none⟩ u) lo hi A c os' :=
  hr.mono (Nat.le_refl _) fun b _ ⟨cs, t, ht, hcs⟩ => Below.heap_setCell _ _ _ _ (fun e => by
    have e' : b = p := e
    subst e'
    rw [h.hp] at hcs
    simp only [Option.some.injEq, Obj.cells.injEq, and_true] at hcs
    rcases ht with rfl | rfl
    · exact h.hT.2 hcs.2
    · exact h.hT.1 hcs.2)
theorem LedIn.setFl (h : LedIn w lo hi p o T cur os fl next behind) (f' : Nat) (v : Value) (hv : v = .int .i64 (f' : Int)) : LedIn (w.setCell ⟨p, o + 3, none⟩ v) lo hi p o T (cur.setIfInBounds (o + 3) v) os f' next behind := by
  obtain ⟨A, c, e, hr⟩ := h.row
  subst hv
  exact ⟨h.hlo, h.hhi, by simpa [World.setCell] using h.hsz, h.hT, set_slot h.hp _ _, ⟨A, c, (slot_other (by omega)).trans e, h.row_setP _ _ hr⟩, (slot_other (by omega)).trans h.c1, (slot_other (by omega)).trans h.c2, slot_set h.c3, h.len, h.nums, h.beh⟩
theorem LedIn.setBehind (h : LedIn w lo hi p o T cur os fl next behind) (b' : Nat) (hb : b' ≤ next) (v : Value) (hv : v = .int .i64 (b' : Int)) : LedIn (w.setCell ⟨p, o + 2, none⟩ v) lo hi p o T (cur.setIfInBounds (o + 2) v) os fl next b' := by
  obtain ⟨A, c, e, hr⟩ := h.row
  subst hv
  exact ⟨h.hlo, h.hhi, by simpa [World.setCell] using h.hsz, h.hT, set_slot h.hp _ _, ⟨A, c, (slot_other (by omega)).trans e, h.row_setP _ _ hr⟩, (slot_other (by omega)).trans h.c1, slot_set h.c2, (slot_other (by omega)).trans h.c3, h.len, h.nums, hb⟩
/-- The first place is let go: it is nil. -/
theorem LedIn.trim1 {r : List (Option Pk)} {A : Option Addr} {c : Nat} (h : LedIn w lo hi p o T cur (none :: r) fl next behind) (he : cur[o]? = some (.slice A (r.length + 1) c)) (hr : RowIn w lo hi A c (none :: r)) :
    LedIn (w.setCell ⟨p, o, none⟩ (.slice (tailA A c 1) r.length (c - 1))) lo hi p o T (cur.setIfInBounds o (.slice (tailA A c 1) r.length (c - 1))) r fl next behind := by
  have hr' : RowIn w lo hi (tailA A c 1) (c - 1) r := by
    obtain ⟨h1, h2, h3⟩ := hr
    simp only [List.length_cons] at h1
    refine ⟨by omega, by omega, ?_⟩
    rcases h3 with ⟨_, rfl⟩ | ⟨g, off, row, rfl, hl, hg, hrow, hs, hc⟩
    · omega
    · by_cases hc1 : c = 1
      · subst hc1
        obtain rfl : r = [] := List.eq_nil_of_length_eq_zero (by omega)
        exact .inr ⟨g, off, row, by unfold tailA; rw [if_pos rfl], hl, hg, hrow, by omega, fun i u hu => by simp at hu⟩
      · refine .inr ⟨g, off + 1, row, by unfold tailA; rw [if_neg hc1]; simp [Addr.add_lit], hl, hg, hrow, by omega, fun i u hu => ?_⟩
        have := hc (i + 1) u (by simpa using hu)
        rwa [show off + 1 + i = off + (i + 1) by omega]
  have hlen := h.len
  simp only [List.length_cons] at hlen
  refine ⟨h.hlo, h.hhi, by simpa [World.setCell] using h.hsz, h.hT, set_slot h.hp _ _, ⟨_, _, slot_set he, h.row_setP _ _ hr'⟩, (slot_other (by omega)).trans h.c1, (slot_other (by omega)).trans h.c2, (slot_other (by omega)).trans h.c3, by omega, fun i k hk => ?_, h.beh⟩
  have := h.nums (i + 1) k (by simpa using hk)
  simp only [List.length_cons] at this
  omega
/-- A place of the row is made nil. -/
theorem LedIn.setNil {g off c i : Nat} {row : Array Value} (h : LedIn w lo hi p o T cur os fl next behind) (he : cur[o]? = some (.slice (some ⟨g, off, none⟩) os.length c)) (hr : RowIn w lo hi (some ⟨g, off, none⟩) c os) (hrow : w.heap[g]? = some (.cells row 107 (0, 0))) (hi' : i < os.length) :
    LedIn (w.setCell ⟨g, off + i, none⟩ (.pointer none)) lo hi p o T cur (os.set i none) fl next behind ∧ RowIn (w.setCell ⟨g, off + i, none⟩ (.pointer none)) lo hi (some ⟨g, off, none⟩) c (os.set i none) := by
  have hne : p ≠ g := fun e => by
    subst e
    have := h.hp
    rw [hrow] at this
    simp only [Option.some.injEq, Obj.cells.injEq, and_true] at this
    exact h.hT.1 this.2.symm
  have hR : RowIn (w.setCell ⟨g, off + i, none⟩ (.pointer none)) lo hi (some ⟨g, off, none⟩) c (os.set i none) := by
    obtain ⟨h1, h2, h3⟩ := hr
    refine ⟨by rw [List.length_set]; exact h1, h2, ?_⟩
    rcases h3 with ⟨e, _⟩ | ⟨g', off', row', e, hl, hg, hrow', hs, hc⟩
    · cases e
    · simp only [Option.some.injEq, Addr.mk.injEq, and_true] at e
      obtain ⟨rfl, rfl⟩ := e
      rw [hrow] at hrow'
      simp only [Option.some.injEq, Obj.cells.injEq, and_true] at hrow'
      subst hrow'
      refine .inr ⟨g, off, row.setIfInBounds (off + i) (.pointer none), rfl, hl, hg, set_slot hrow _ _, by rw [Array.size_setIfInBounds]; exact hs, fun j u hu => ?_⟩
      rw [List.getElem?_set] at hu
      by_cases hj : i = j
      · subst hj
        rw [if_pos rfl, if_pos hi'] at hu
        simp only [Option.some.injEq] at hu
        subst hu
        exact ⟨_, slot_set (v := row[off + i]'(by omega)) (Array.getElem?_eq_getElem (by omega)), rfl⟩
      · rw [if_neg hj] at hu
        obtain ⟨v, hv, hp⟩ := hc j u hu
        refine ⟨v, (slot_other (by omega)).trans hv, hp.mono (Nat.le_refl _) fun b _ ⟨cs, hcs⟩ => Below.heap_setCell _ _ _ _ (fun e => ?_)⟩
        have e' : b = g := e
        subst e'
        rw [hrow] at hcs
        simp only [Option.some.injEq, Obj.cells.injEq, and_true] at hcs
        exact absurd hcs.2 (by decide)
  refine ⟨⟨h.hlo, h.hhi, by simpa [World.setCell] using h.hsz, h.hT, (Below.heap_setCell _ _ _ _ hne).trans h.hp, ⟨_, c, by rw [List.length_set]; exact he, hR⟩, h.c1, h.c2, h.c3, by rw [List.length_set]; exact h.len, fun j k hk => ?_, h.beh⟩, hR⟩
  rw [List.length_set]
  rw [List.getElem?_set] at hk
  split at hk
  · first | (simp at hk; done) | (split at hk <;> simp at hk)
  · exact h.nums j k hk
end
end Go.Proofs.YtebfjphmlggacaaGreat.Ld

namespace Go.Proofs.YtebfjphmlggacaaGreat.Ld
open Go Go.RowKit Go.Proofs.YtebfjphmlggacaaGreat Go.Proofs.YtebfjphmlggacaaGreat.Sp

section
variable {w : World} {lo hi p o : Nat} {T : TypeId} {cur : Array Value} {os : List (Option Pk)} {fl next behind : Nat}
theorem next_any (h : LedIn w lo hi p o T cur os fl next behind) :
    Calls Tryz.prog 23 #[.pointer (some ⟨p, o, none⟩)] w fun e w' => e = .returned (.int .i64 (next : Int)) ∧ w = w' := by
  have hc := h.cell.1
  clear h
  go_enter Tryz.func23, Tryz.ntmps23
  go_wp2
  go_ret
  exact ⟨rfl, rfl⟩
theorem flight_any (h : LedIn w lo hi p o T cur os fl next behind) :
    Calls Tryz.prog 21 #[.pointer (some ⟨p, o, none⟩)] w fun e w' => e = .returned (.int .i64 (fl : Int)) ∧ w = w' := by
  have hc := h.cell.2.2
  clear h
  go_enter Tryz.func21, Tryz.ntmps21
  go_wp2
  go_ret
  exact ⟨rfl, rfl⟩
theorem acked_any (h : LedIn w lo hi p o T cur os fl next behind) (hn : next ≤ 4611686018427387904) :
    Calls Tryz.prog 24 #[.pointer (some ⟨p, o, none⟩)] w fun e w' => e = .returned (.int .i64 ((behind : Int) - 1)) ∧ w = w' := by
  have hc := h.cell.2.1
  have hb : (behind : Int) ≤ 4611686018427387904 := by have := h.beh; omega
  clear h
  go_enter Tryz.func24, Tryz.ntmps24
  go_wp2
  go_ret
  exact ⟨rfl, rfl⟩
end

theorem whatever_any (v : Value) (w : World) : Calls Tryz.prog 67 #[v] w fun e w' => e = .returned (.bool true) ∧ w = w' := by
  go_enter Tryz.func67, Tryz.ntmps67
  go_wp2
  go_ret
  exact ⟨rfl, rfl⟩

theorem aged_any (a n l : Int) (w : World) (ha : -9223372036854775808 ≤ a ∧ a ≤ 9223372036854775807) (hn : -9223372036854775808 ≤ n ∧ n ≤ 9223372036854775807) (hl : -9223372036854775808 ≤ l ∧ l ≤ 9223372036854775807) :
    Calls Tryz.prog 73 #[.int .i64 a, .int .i64 n, .int .i64 l] w fun e w' => e = .returned (.bool (decide (a ≤ n - l))) ∧ w = w' := by
  obtain ⟨ha1, ha2⟩ := ha
  obtain ⟨hn1, hn2⟩ := hn
  obtain ⟨hl1, hl2⟩ := hl
  by_cases h0 : l < 0
  · by_cases h1 : 9223372036854775807 + l < n
    · have hr : Hid (decide (a ≤ n - l) = true) := by show _ = _; simp; omega
      rw [hr.out]
      go_enter Tryz.func73, Tryz.ntmps73
      go_wp2
      go_ret
      exact ⟨rfl, rfl⟩
    · by_cases h2 : a ≤ n - l
      · have hr : Hid (decide (a ≤ n - l) = true) := by show _ = _; simp; omega
        rw [hr.out]
        go_enter Tryz.func73, Tryz.ntmps73
        go_wp2
        go_ret
        exact ⟨rfl, rfl⟩
      · have hr : Hid (decide (a ≤ n - l) = false) := by show _ = _; simp; omega
        rw [hr.out]
        go_enter Tryz.func73, Tryz.ntmps73
        go_wp2
        go_ret
        exact ⟨rfl, rfl⟩
  · by_cases h1 : -9223372036854775808 + l ≤ n
    · by_cases h2 : a ≤ n - l
      · have hr : Hid (decide (a ≤ n - l) = true) := by show _ = _; simp; omega
        rw [hr.out]
        go_enter Tryz.func73, Tryz.ntmps73
        go_wp2
        go_ret
        exact ⟨rfl, rfl⟩
      · have hr : Hid (decide (a ≤ n - l) = false) := by show _ = _; simp; omega
        rw [hr.out]
        go_enter Tryz.func73, Tryz.ntmps73
        go_wp2
        go_ret
        exact ⟨rfl, rfl⟩
    · have hr : Hid (decide (a ≤ n - l) = false) := by show _ = _; simp; omega
      rw [hr.out]
      go_enter Tryz.func73, Tryz.ntmps73
      go_wp2
      go_ret
      exact ⟨rfl, rfl⟩
end Go.Proofs.YtebfjphmlggacaaGreat.Ld

namespace Go.Proofs.YtebfjphmlggacaaGreat.Ld
open Go Go.RowKit Go.Proofs.YtebfjphmlggacaaGreat Go.Proofs.YtebfjphmlggacaaGreat.Sp

def lenAt (w : World) (p o : Nat) : Nat := match w.cell? ⟨p, o, none⟩ with | some (.slice _ n _) => n | _ => 0
section
variable {w : World} {lo hi p o : Nat} {T : TypeId} {cur : Array Value} {os : List (Option Pk)} {fl next behind : Nat}

set_option maxHeartbeats 1000000 in
theorem trim_any (h : LedIn w lo hi p o T cur os fl next behind) :
    Calls Tryz.prog 84 #[.pointer (some ⟨p, o, none⟩)] w fun e w' => e = .returned (.tuple #[]) ∧ ∃ cur' os', LedIn w' lo hi p o T cur' os' fl next behind ∧ os'.filterMap id = os.filterMap id ∧ CurSame o cur cur' ∧ Moved lo p w w' := by
  have H := Lib.hid h
  clear h
  go_enter Tryz.func84, Tryz.ntmps84
  go_wp2_with fail
  go_loopw [] (fun wr => ∃ cur' os', Hid (LedIn wr lo hi p o T cur' os' fl next behind ∧ os'.filterMap id = os.filterMap id ∧ CurSame o cur cur' ∧ Moved lo p w wr)) (fun wr => lenAt wr p o)
  case atStart => exact ⟨cur, os, H.out, rfl, CurSame.refl _ _, Moved.refl _ _ _⟩
  case round =>
    obtain ⟨cur', os', HK⟩ := hrel
    obtain ⟨A, c, hA, hR⟩ := HK.out.1.row
    have hc := cell_slot HK.out.1.hp hA
    have HA := Lib.hid hA
    have HR := Lib.hid hR
    clear hA hR
    cases os' with
    | nil =>
      simp only [List.length_nil] at hc
      go_wp2_with fail
      go_end0
      exact ⟨rfl, _, _, HK.out⟩
    | cons u r =>
      simp only [List.length_cons] at hc
      have hl : ((r.length : Int) + 1 > 0) := by omega
      obtain ⟨g, off, row, e, hlo, hg, hrow, hs, hcs⟩ : ∃ g off row, A = some ⟨g, off, none⟩ ∧ lo ≤ g ∧ g < hi ∧ wr.heap[g]? = some (.cells row 107 (0, 0)) ∧ off + c ≤ row.size ∧ ∀ i u', (u :: r)[i]? = some u' → ∃ v, row[off + i]? = some v ∧ PtrOk wr lo hi v u' := by
        rcases HR.out.2.2 with ⟨_, e⟩ | h
        · have := HR.out.1
          simp only [List.length_cons] at this
          omega
        · exact h
      subst e
      obtain ⟨v, hv, hp⟩ := hcs 0 u rfl
      have hcv : wr.cell? ⟨g, off, none⟩ = some v := cell_slot hrow hv
      clear hcs hv
      cases u with
      | none =>
        have hv : v = .pointer none := hp
        subst hv
        clear hp
        have hf := HK.out.1.free o
        have hc1 : r.length + 1 ≤ c := HR.out.1
        have hcI : ((r.length : Int) + 1) ≤ (c : Int) := by omega
        have eT : tailA (some ⟨g, off, none⟩) c 1 = if c = 1 then some ⟨g, off, none⟩ else some ⟨g, off + 1, none⟩ := by unfold tailA; simp [Addr.add_lit]
        have HN := HK.out.1.trim1 HA.out HR.out
        rw [eT] at HN
        have HN := Lib.hid HN
        clear eT
        go_wp2_with fail
        refine ⟨⟨_, r, HN.out, HK.out.2.1, HK.out.2.2.1.set o (by omega) _, HK.out.2.2.2.setP HK.out.1.hlo _ _⟩, ?_⟩
        have h1 : lenAt wr p o = r.length + 1 := by unfold lenAt; rw [hc]
        have h2 := cell_slot HN.out.hp (slot_set HA.out)
        have h3 : ∀ w', w'.cell? ⟨p, o, none⟩ = some (.slice (if c = 1 then some ⟨g, off, none⟩ else some ⟨g, off + 1, none⟩) r.length (c - 1)) → lenAt w' p o = r.length := fun w' h => by unfold lenAt; rw [h]
        rw [h1, h3 _ h2]
        omega
      | some k =>
        obtain ⟨b, e, _⟩ := hp
        subst e
        go_wp2_with fail
        go_end0
        exact ⟨rfl, _, _, HK.out⟩

def oldB (behind : Nat) (n l : Int) (k : Pk) : Bool := decide ((k.num : Int) + 4 ≤ behind) || decide (k.at' ≤ n - l)
set_option maxHeartbeats 1000000 in
theorem clo_any (h : LedIn w lo hi p o T cur os fl next behind) (hn : next ≤ 4611686018427387904) (b b1 b2 b3 : Nat) (k : Pk) (n l : Int) (hk : w.heap[b]? = some (.cells k.cells 75 (0, 0)))
    (h1 : w.cell? ⟨b1, 0, none⟩ = some (.pointer (some ⟨p, o, none⟩))) (h2 : w.cell? ⟨b2, 0, none⟩ = some (.int .i64 n)) (h3 : w.cell? ⟨b3, 0, none⟩ = some (.int .i64 l))
    (ha : -9223372036854775808 ≤ k.at' ∧ k.at' ≤ 9223372036854775807) (hn' : -9223372036854775808 ≤ n ∧ n ≤ 9223372036854775807) (hl' : -9223372036854775808 ≤ l ∧ l ≤ 9223372036854775807) :
    Calls Tryz.prog 72 #[.pointer (some ⟨b, 0, none⟩), .pointer (some ⟨b1, 0, none⟩), .pointer (some ⟨b2, 0, none⟩), .pointer (some ⟨b3, 0, none⟩)] w fun e w' => e = .returned (.bool (oldB behind n l k)) ∧ Below w.heap.size w w' := by
  have HA : Hid (∀ m, Calls Tryz.prog 24 #[.pointer (some ⟨p, o, none⟩)] (w.drewN m) fun e w' => e = .returned (.int .i64 ((behind : Int) - 1)) ∧ w' = w.drewN m) := fun m => (acked_any (h.keep (Below.drewN' _ _ _)) hn).mono fun _ _ h => ⟨h.1, h.2.symm⟩
  have HG : Hid (∀ W, Calls Tryz.prog 73 #[.int .i64 k.at', .int .i64 n, .int .i64 l] W fun e w' => e = .returned (.bool (decide (k.at' ≤ n - l))) ∧ w' = W) := fun W => (aged_any _ _ _ W ha hn' hl').mono fun _ _ h => ⟨h.1, h.2.symm⟩
  have hb : (behind : Int) ≤ 4611686018427387904 := by have := h.beh; omega
  have k0 := cell_of_row w b 0 _ _ _ hk
  have k1 := cell_of_row w b 1 _ _ _ hk
  have H := Lib.hid h
  obtain ⟨num, at', el, fa, fn, fc⟩ := k
  simp only [Pk.cells] at k0 k1 HG
  simp only [List.getElem?_toArray, List.getElem?_cons_zero, List.getElem?_cons_succ] at k0 k1
  clear h hk ha hn' hl' hn
  by_cases hc : (num : Int) ≤ (behind : Int) - 1 - 3
  · have hr : Hid (oldB behind n l ⟨num, at', el, fa, fn, fc⟩ = true) := by show _ = _; simp [oldB]; omega
    rw [hr.out]
    have hd : decide ((num : Int) ≤ (behind : Int) - 1 - 3) = true := decide_eq_true hc
    go_enter Tryz.func72, Tryz.ntmps72
    go_wp2_with fail
    go_quiet (first | (go_at_call 24; exact Calls.quiet_of_same (HA.out _)) | (go_at_call 73; exact Calls.quiet_of_same (HG.out _)))
    go_wp2_with fail
    go_ret
    exact ⟨rfl, Below.drewN' _ _ _⟩
  · have hr : Hid (oldB behind n l ⟨num, at', el, fa, fn, fc⟩ = decide (at' ≤ n - l)) := by show _ = _; simp [oldB]; omega
    rw [hr.out]
    have hd : decide ((num : Int) ≤ (behind : Int) - 1 - 3) = false := decide_eq_false hc
    go_enter Tryz.func72, Tryz.ntmps72
    go_wp2_with fail
    go_quiet (first | (go_at_call 24; exact Calls.quiet_of_same (HA.out _)) | (go_at_call 73; exact Calls.quiet_of_same (HG.out _)))
    go_wp2_with fail
    go_ret
    exact ⟨rfl, Below.drewN' _ _ _⟩
end
end Go.Proofs.YtebfjphmlggacaaGreat.Ld

namespace Go.Proofs.YtebfjphmlggacaaGreat.Ld
open Go Go.RowKit Go.Proofs.YtebfjphmlggacaaGreat Go.Proofs.YtebfjphmlggacaaGreat.Sp

def selB (f : Nat) (t : Int) (g : Pk → Bool) (k : Pk) : Bool := decide (f ≤ k.num) && decide ((k.num : Int) < t) && g k
def outs (os : List (Option Pk)) : List Pk := os.filterMap id
def els (l : List Pk) : Nat := l.countP (·.el)
def leftL (s : Pk → Bool) (os : List (Option Pk)) (i : Nat) : List Pk := (outs (os.take i)).filter s
def restO (s : Pk → Bool) (os : List (Option Pk)) (i : Nat) : List (Option Pk) := (os.take i).map (Option.filter fun k => !s k) ++ os.drop i

theorem outs_app (a b : List (Option Pk)) : outs (a ++ b) = outs a ++ outs b := by simp [outs]
theorem els_app (a b : List Pk) : els (a ++ b) = els a + els b := by simp [els]
theorem restO_len (s : Pk → Bool) (os : List (Option Pk)) (i : Nat) : (restO s os i).length = os.length := by
  simp only [restO, List.length_append, List.length_map, List.length_take, List.length_drop]; omega
theorem restO_get (s : Pk → Bool) (os : List (Option Pk)) (i j : Nat) (h : i ≤ j) : (restO s os i)[j]? = os[j]? := by
  unfold restO
  by_cases hi : i ≤ os.length
  · rw [List.getElem?_append_right (by simp; omega), List.getElem?_drop]
    simp only [List.length_map, List.length_take]
    rw [show i + (j - min i os.length) = j by omega]
  · rw [List.getElem?_eq_none (by simp; omega), List.getElem?_eq_none (by omega)]
theorem take_snoc {α} {os : List α} {i : Nat} {u : α} (h : os[i]? = some u) : os.take (i + 1) = os.take i ++ [u] := by
  rw [List.take_add_one, h]; rfl
theorem drop_cons {α} {os : List α} {i : Nat} {u : α} (h : os[i]? = some u) : os.drop i = u :: os.drop (i + 1) := by
  obtain ⟨hi, e⟩ := List.getElem?_eq_some_iff.1 h
  rw [List.drop_eq_getElem_cons hi, e]
theorem step_stay (s : Pk → Bool) (os : List (Option Pk)) (i : Nat) (u : Option Pk) (h : os[i]? = some u) (hu : ∀ k, u = some k → s k = false) : leftL s os (i + 1) = leftL s os i ∧ restO s os (i + 1) = restO s os i := by
  unfold leftL restO
  rw [take_snoc h, drop_cons h, outs_app, List.filter_append, List.map_append, List.append_assoc]
  cases u with
  | none => simp [outs]
  | some k => simp [outs, hu k rfl]
theorem step_go (s : Pk → Bool) (os : List (Option Pk)) (i : Nat) (k : Pk) (h : os[i]? = some (some k)) (hu : s k = true) : leftL s os (i + 1) = leftL s os i ++ [k] ∧ restO s os (i + 1) = (restO s os i).set i none := by
  have hi := (List.getElem?_eq_some_iff.1 h).1
  unfold leftL restO
  rw [take_snoc h, drop_cons h, outs_app, List.filter_append, List.map_append, List.append_assoc]
  refine ⟨by simp [outs, hu], ?_⟩
  rw [List.set_append_right _ _ (by simp; omega)]
  simp [hu, show i - min i os.length = 0 by omega]
theorem left_start (s : Pk → Bool) (os : List (Option Pk)) (i : Nat) (h : ∀ k, some k ∈ os.take i → s k = false) : leftL s os i = [] ∧ restO s os i = os := by
  unfold leftL restO
  refine ⟨?_, ?_⟩
  · rw [List.filter_eq_nil_iff]
    intro k hk
    rw [h k (by simpa [outs] using hk)]
    simp
  · have e : (os.take i).map (Option.filter fun k => !s k) = os.take i := by
      refine (List.map_congr_left fun u hu => ?_).trans (List.map_id _)
      cases u with
      | none => rfl
      | some k => simp [h k hu]
    rw [e, List.take_append_drop]
theorem outs_map (s : Pk → Bool) (l : List (Option Pk)) : outs (l.map (Option.filter fun k => !s k)) = (outs l).filter fun k => !s k := by
  induction l with
  | nil => rfl
  | cons u r ih =>
    unfold outs at ih ⊢
    cases u with
    | none => simpa using ih
    | some k =>
      by_cases hk : s k = true
      · simp [hk, ih]
      · simp only [Bool.not_eq_true] at hk
        have e : Option.filter (fun k => !s k) (some k) = some k := by simp [Option.filter, hk]
        rw [List.map_cons, e]
        simp [hk, ih]
theorem left_end (s : Pk → Bool) (os : List (Option Pk)) (i : Nat) (h : ∀ k, some k ∈ os.drop i → s k = false) : leftL s os i = (outs os).filter s ∧ outs (restO s os i) = (outs os).filter fun k => !s k := by
  have e : outs os = outs (os.take i) ++ outs (os.drop i) := by rw [← outs_app, List.take_append_drop]
  have hd : ∀ k ∈ outs (os.drop i), s k = false := fun k hk => h k (by simpa [outs] using hk)
  refine ⟨?_, ?_⟩
  · rw [e, List.filter_append]
    have : (outs (os.drop i)).filter s = [] := by
      rw [List.filter_eq_nil_iff]
      intro k hk
      rw [hd k hk]; simp
    rw [this, List.append_nil]
    rfl
  · unfold restO
    rw [outs_app, outs_map, e, List.filter_append]
    have : (outs (os.drop i)).filter (fun k => !s k) = outs (os.drop i) := by
      rw [List.filter_eq_self]
      intro k hk
      rw [hd k hk]; rfl
    rw [this]
theorem els_split (s : Pk → Bool) (l : List Pk) : els (l.filter s) + els (l.filter fun k => !s k) = els l := by
  induction l with
  | nil => rfl
  | cons k r ih =>
    unfold els at ih ⊢
    by_cases hk : s k = true
    · simp [hk, List.countP_cons]; omega
    · simp only [Bool.not_eq_true] at hk
      simp [hk, List.countP_cons]; omega
theorem els_left_le (s : Pk → Bool) (os : List (Option Pk)) (i : Nat) : els (leftL s os i) ≤ els (outs os) := by
  have h := congrArg els (show outs os = outs (os.take i) ++ outs (os.drop i) by rw [← outs_app, List.take_append_drop])
  have := els_split s (outs (os.take i))
  rw [els_app] at h
  unfold leftL
  omega
theorem left_len_le (s : Pk → Bool) (os : List (Option Pk)) (i : Nat) : (leftL s os i).length ≤ os.length := by
  unfold leftL outs
  refine Nat.le_trans (List.length_filter_le _ _) (Nat.le_trans (List.length_filterMap_le _ _) ?_)
  rw [List.length_take]; omega

theorem infoS : (Tryz.prog.info? 75).map (fun i => (i.zero, i.size, i.bytes)) = some (some (.agg #[.int .i64 0, .int .i64 0, .bool false, .slice none 0 0]), 4, 48) := by kernel_rfl

/-- What stands while leave goes over the row. -/
structure LvI (w wr : World) (lo hi p o : Nat) (T : TypeId) (cur : Array Value) (os : List (Option Pk)) (next behind : Nat) (s : Pk → Bool) (k L : Nat) (v : Value) (cur' : Array Value) : Prop where
  len : L = (leftL s os k).length
  own : wr.ownsRow w.heap.size 75 4 v L (pks (leftL s os k))
  led : LedIn wr lo hi p o T cur' (restO s os k) (els (outs os) - els (leftL s os k)) next behind
  cs : CurSame o cur cur'
  mv : Moved lo p w wr
theorem LvI.keep {w wr w1 : World} {lo hi p o : Nat} {T : TypeId} {cur : Array Value} {os : List (Option Pk)} {next behind : Nat} {s : Pk → Bool} {k L : Nat} {v : Value} {cur' : Array Value} (h : LvI w wr lo hi p o T cur os next behind s k L v cur') (hb : Below wr.heap.size wr w1) : LvI w w1 lo hi p o T cur os next behind s k L v cur' :=
  ⟨h.len, own_below h.own hb, h.led.keep (hb.mono h.led.hsz), h.cs, h.mv.trans (Moved.of hb (Nat.le_trans h.led.hlo (Nat.le_trans (Nat.le_of_lt h.led.hhi) h.led.hsz)))⟩

/-- What leave tells, and leaves. -/
def LeaveP (w : World) (lo hi p o : Nat) (T : TypeId) (cur : Array Value) (os : List (Option Pk)) (next behind : Nat) (s : Pk → Bool) (e : Ending) (w' : World) : Prop :=
  ∃ A c cur' os', e = .returned (.slice A ((outs os).filter s).length c) ∧ w'.ownsRow w.heap.size 75 4 (.slice A ((outs os).filter s).length c) ((outs os).filter s).length (pks ((outs os).filter s)) ∧
    LedIn w' lo hi p o T cur' os' (els ((outs os).filter fun k => !s k)) next behind ∧ outs os' = ((outs os).filter fun k => !s k) ∧ CurSame o cur cur' ∧ Moved lo p w w'
end Go.Proofs.YtebfjphmlggacaaGreat.Ld
