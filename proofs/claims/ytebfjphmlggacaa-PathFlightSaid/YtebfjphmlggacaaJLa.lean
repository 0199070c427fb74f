/- The ledger in memory: packets that were sent, a row of pointers that may begin anywhere, the ledger's four cells. Conditions: as each theorem lists them. -/
import Derived.Test.YtebfjphmlggacaaJSc
set_option linter.unusedSimpArgs false
set_option linter.unusedVariables false

namespace Go.Proofs.Ytebfjphmlggacaa.Ld
open Go Go.RowKit Go.Proofs.Ytebfjphmlggacaa Go.Proofs.Ytebfjphmlggacaa.Sp

/-- A packet that was sent: its number, when, whether it elicits, where its frames lie. -/
structure Pk where
  num : Nat
  at' : Int
  el : Bool
  fa : Option Addr
  fn : Nat
  fc : Nat
def Pk.cells (k : Pk) : Array Value := #[.int .i64 (k.num : Int), .int .i64 k.at', .bool k.el, .slice k.fa k.fn k.fc]
def pks (l : List Pk) : List Value := l.flatMap fun k => k.cells.toList
theorem pks_app (a b : List Pk) : pks (a ++ b) = pks a ++ pks b := by simp [pks]
theorem pks_len : ∀ l : List Pk, (pks l).length = l.length * 4
  | [] => rfl
  | k :: r => by
    show (k.cells.toList ++ pks r).length = (r.length + 1) * 4
    rw [List.length_append, pks_len r]
    show 4 + _ = _
    omega
theorem ones_pks (l : List Pk) : ones (pks l) := fun u hu => by
  simp only [pks, List.mem_flatMap] at hu
  obtain ⟨k, _, hu⟩ := hu
  simp only [Pk.cells, List.mem_cons, List.not_mem_nil, or_false] at hu
  rcases hu with rfl | rfl | rfl | rfl <;> rfl
theorem pks_get : ∀ (l : List Pk) (i : Nat) (k : Pk), l[i]? = some k → ∀ j, j < 4 → (pks l)[i * 4 + j]? = k.cells.toList[j]?
  | [], i, k, h, _, _ => by simp at h
  | x :: r, 0, k, h, j, hj => by
    simp only [List.length_cons, List.getElem?_cons_zero, Option.some.injEq] at h
    subst h
    show (x.cells.toList ++ pks r)[0 * 4 + j]? = _
    rw [Nat.zero_mul, Nat.zero_add, List.getElem?_append_left (by show j < 4; exact hj)]
  | x :: r, i + 1, k, h, j, hj => by
    show (x.cells.toList ++ pks r)[(i + 1) * 4 + j]? = _
    rw [List.getElem?_append_right (by show 4 ≤ _; omega)]
    rw [show (i + 1) * 4 + j - x.cells.toList.length = i * 4 + j by show _ - 4 = _; omega]
    exact pks_get r i k (by simpa using h) j hj

/-- A pointer to a packet, or nil. -/
def PtrOk (w : World) (lo hi : Nat) (v : Value) : Option Pk → Prop
  | none => v = .pointer none
  | some k => ∃ b, v = .pointer (some ⟨b, 0, none⟩) ∧ lo ≤ b ∧ b < hi ∧ w.heap[b]? = some (.cells k.cells 63 (0, 0))
theorem PtrOk.mono {w w' : World} {lo hi hi' : Nat} {v : Value} {u : Option Pk} (h : PtrOk w lo hi v u) (hh : hi ≤ hi') (hb : ∀ b, b < hi → (∃ cs, w.heap[b]? = some (.cells cs 63 (0, 0))) → w'.heap[b]? = w.heap[b]?) : PtrOk w' lo hi' v u := by
  cases u with
  | none => exact h
  | some k =>
    obtain ⟨b, e, h1, h2, h3⟩ := h
    exact ⟨b, e, h1, Nat.lt_of_lt_of_le h2 hh, (hb b h2 ⟨_, h3⟩).trans h3⟩

/-- A row of such pointers, wherever in its block it begins. -/
def RowIn (w : World) (lo hi : Nat) (A : Option Addr) (c : Nat) (os : List (Option Pk)) : Prop :=
  os.length ≤ c ∧ c ≤ maxLen ∧ ((A = none ∧ c = 0) ∨ ∃ g off row, A = some ⟨g, off, none⟩ ∧ lo ≤ g ∧ g < hi ∧ w.heap[g]? = some (.cells row 82 (0, 0)) ∧ off + c ≤ row.size ∧ ∀ i u, os[i]? = some u → ∃ v, row[off + i]? = some v ∧ PtrOk w lo hi v u)

theorem RowIn.mono {w w' : World} {lo hi hi' : Nat} {A : Option Addr} {c : Nat} {os : List (Option Pk)} (h : RowIn w lo hi A c os) (hh : hi ≤ hi') (hb : ∀ b, b < hi → (∃ cs t, (t = 63 ∨ t = 82) ∧ w.heap[b]? = some (.cells cs t (0, 0))) → w'.heap[b]? = w.heap[b]?) : RowIn w' lo hi' A c os := by
  obtain ⟨h1, h2, h3⟩ := h
  refine ⟨h1, h2, ?_⟩
  rcases h3 with h3 | ⟨g, off, row, e, hl, hg, hr, hs, hc⟩
  · exact .inl h3
  · refine .inr ⟨g, off, row, e, hl, Nat.lt_of_lt_of_le hg hh, (hb g hg ⟨_, _, .inr rfl, hr⟩).trans hr, hs, fun i u hu => ?_⟩
    obtain ⟨v, hv, hp⟩ := hc i u hu
    exact ⟨v, hv, hp.mono hh fun b hb' ⟨cs, hcs⟩ => hb b hb' ⟨cs, _, .inl rfl, hcs⟩⟩

/-- The ledger: four cells at place o of block p. -/
structure LedIn (w : World) (lo hi p o : Nat) (T : TypeId) (cur : Array Value) (os : List (Option Pk)) (fl next behind : Nat) : Prop where
  hlo : lo ≤ p
  hhi : p < hi
  hsz : hi ≤ w.heap.size
  hT : T ≠ 82 ∧ T ≠ 63
  hp : w.heap[p]? = some (.cells cur T (0, 0))
  row : ∃ A c, cur[o]? = some (.slice A os.length c) ∧ RowIn w lo hi A c os
  c1 : cur[o + 1]? = some (.int .i64 (next : Int))
  c2 : cur[o + 2]? = some (.int .i64 (behind : Int))
  c3 : cur[o + 3]? = some (.int .i64 (fl : Int))
  len : os.length ≤ next
  nums : ∀ i k, os[i]? = some (some k) → k.num + os.length = next + i
  beh : behind ≤ next

/-- Outside the ledger's four cells nothing of the block has turned. -/
def CurSame (o : Nat) (cur cur' : Array Value) : Prop := cur'.size = cur.size ∧ ∀ j, (j < o ∨ o + 4 ≤ j) → cur'[j]? = cur[j]?
theorem CurSame.refl (o : Nat) (cur : Array Value) : CurSame o cur cur := ⟨rfl, fun _ _ => rfl⟩
theorem CurSame.trans {o : Nat} {a b c : Array Value} (h : CurSame o a b) (k : CurSame o b c) : CurSame o a c := ⟨k.1.trans h.1, fun j hj => (k.2 j hj).trans (h.2 j hj)⟩
theorem CurSame.set {o : Nat} {a b : Array Value} (h : CurSame o a b) (j : Nat) (hj : o ≤ j ∧ j < o + 4) (u : Value) : CurSame o a (b.setIfInBounds j u) :=
  ⟨by rw [Array.size_setIfInBounds]; exact h.1, fun i hi => by rw [slot_other (by omega)]; exact h.2 i hi⟩

/-- What may have turned: block p, rows of pointers to packets; nothing below lo. -/
structure Moved (lo p : Nat) (w w' : World) : Prop where
  below : Below lo w w'
  kept : ∀ k, k < w.heap.size → k ≠ p → (∀ row, w.heap[k]? ≠ some (.cells row 82 (0, 0))) → w'.heap[k]? = w.heap[k]?
theorem Moved.refl (lo p : Nat) (w : World) : Moved lo p w w := ⟨Below.refl _ _, fun _ _ _ _ => rfl⟩
theorem Moved.trans {lo p : Nat} {a b c : World} (h : Moved lo p a b) (k : Moved lo p b c) : Moved lo p a c :=
  ⟨h.below.trans k.below, fun i hi hp hr => by
    have e := h.kept i hi hp hr
    exact (k.kept i (Nat.lt_of_lt_of_le hi h.below.size) hp (fun row => by rw [e]; exact hr row)).trans e⟩
theorem Moved.of {lo p : Nat} {w w' : World} (h : Below w.heap.size w w') (hlo : lo ≤ w.heap.size) : Moved lo p w w' := ⟨h.mono hlo, fun k hk _ _ => h.block k hk⟩
theorem Moved.upper {lo p : Nat} {w a b : World} (h : Moved lo p w a) (hb : Below w.heap.size a b) (hlo : lo ≤ w.heap.size) : Moved lo p w b := ⟨h.below.trans (hb.mono hlo), fun k hk hp hr => (hb.block k hk).trans (h.kept k hk hp hr)⟩
theorem Moved.lower {lo lo' p : Nat} {w w' : World} (h : Moved lo p w w') (hl : lo' ≤ lo) : Moved lo' p w w' := ⟨h.below.mono hl, h.kept⟩
theorem Moved.setP {lo p : Nat} {a w : World} (h : Moved lo p a w) (hlo : lo ≤ p) (j : Nat) (u : Value) : Moved lo p a (w.setCell ⟨p, j, none⟩ u) :=
  h.trans ⟨(Below.refl _ _).setCell hlo u, fun k _ hp _ => Below.heap_setCell _ _ _ _ hp⟩
theorem Moved.setRow {lo p g : Nat} {a w : World} {row : Array Value} (h : Moved lo p a w) (hlo : lo ≤ g) (hg : w.heap[g]? = some (.cells row 82 (0, 0))) (j : Nat) (u : Value) : Moved lo p a (w.setCell ⟨g, j, none⟩ u) :=
  h.trans ⟨(Below.refl _ _).setCell hlo u, fun k _ _ hr => Below.heap_setCell _ _ _ _ (fun e => by subst e; exact hr row hg)⟩

section
variable {w w' : World} {lo hi p o : Nat} {T : TypeId} {cur : Array Value} {os : List (Option Pk)} {fl next behind : Nat}

theorem LedIn.keep (h : LedIn w lo hi p o T cur os fl next behind) (hb : Below hi w w') : LedIn w' lo hi p o T cur os fl next behind := by
  obtain ⟨A, c, e, hr⟩ := h.row
  exact ⟨h.hlo, h.hhi, Nat.le_trans h.hsz hb.size, h.hT, (hb.block p h.hhi).trans h.hp, ⟨A, c, e, hr.mono (Nat.le_refl _) fun b hbb _ => hb.block b hbb⟩, h.c1, h.c2, h.c3, h.len, h.nums, h.beh⟩
theorem LedIn.more {hi' : Nat} (h : LedIn w lo hi p o T cur os fl next behind) (hh : hi ≤ hi') (hs : hi' ≤ w.heap.size) : LedIn w lo hi' p o T cur os fl next behind := by
  obtain ⟨A, c, e, hr⟩ := h.row
  exact ⟨h.hlo, Nat.lt_of_lt_of_le h.hhi hh, hs, h.hT, h.hp, ⟨A, c, e, hr.mono hh fun b _ _ => rfl⟩, h.c1, h.c2, h.c3, h.len, h.nums, h.beh⟩

/-- A cell of the ledger, as the walk asks for it. -/
theorem LedIn.cell (h : LedIn w lo hi p o T cur os fl next behind) : w.cell? ⟨p, o + 1, none⟩ = some (.int .i64 (next : Int)) ∧ w.cell? ⟨p, o + 2, none⟩ = some (.int .i64 (behind : Int)) ∧ w.cell? ⟨p, o + 3, none⟩ = some (.int .i64 (fl : Int)) :=
  ⟨cell_slot h.hp h.c1, cell_slot h.hp h.c2, cell_slot h.hp h.c3⟩
theorem LedIn.free (h : LedIn w lo hi p o T cur os fl next behind) (j : Nat) : w.frozen? ⟨p, j, none⟩ = false := free_slot h.hp

/-- A cell of block p is written: the row stays. -/
theorem LedIn.row_setP (h : LedIn w lo hi p o T cur os fl next behind) (j : Nat) (u : Value) {A : Option Addr} {c : Nat} {os' : List (Option Pk)} (hr : RowIn w lo hi A c os') : RowIn (w.setCell ⟨p, j, none⟩ u) lo hi A c os' :=
  hr.mono (Nat.le_refl _) fun b _ ⟨cs, t, ht, hcs⟩ => Below.heap_setCell _ _ _ _ (fun e => by
    have e' : b = p := e
    subst e'
    rw [h.hp] at hcs
    simp only [Option.some.injEq, Obj.cells.injEq, and_true] at hcs
    rcases ht with rfl | rfl
    · exact h.hT.2 hcs.2
    · exact h.hT.1 hcs.2)
theorem LedIn.setFl (h : LedIn w lo hi p o T cur os fl next behind) (f' : Nat) (v : Value) (hv : v = .int .i64 (f' : Int)) : LedIn (w.setCell ⟨p, o + 3, none⟩ v) lo hi p o T (cur.setIfInBounds (o + 3) v) os f' next behind := by
  obtain ⟨A, c, e, hr⟩ := h.row
  subst hv
  exact ⟨h.hlo, h.hhi, by simpa [World.setCell] using h.hsz, h.hT, set_slot h.hp _ _, ⟨A, c, (slot_other (by omega)).trans e, h.row_setP _ _ hr⟩, (slot_other (by omega)).trans h.c1, (slot_other (by omega)).trans h.c2, slot_set h.c3, h.len, h.nums, h.beh⟩
theorem LedIn.setBehind (h : LedIn w lo hi p o T cur os fl next behind) (b' : Nat) (hb : b' ≤ next) (v : Value) (hv : v = .int .i64 (b' : Int)) : LedIn (w.setCell ⟨p, o + 2, none⟩ v) lo hi p o T (cur.setIfInBounds (o + 2) v) os fl next b' := by
  obtain ⟨A, c, e, hr⟩ := h.row
  subst hv
  exact ⟨h.hlo, h.hhi, by simpa [World.setCell] using h.hsz, h.hT, set_slot h.hp _ _, ⟨A, c, (slot_other (by omega)).trans e, h.row_setP _ _ hr⟩, (slot_other (by omega)).trans h.c1, slot_set h.c2, (slot_other (by omega)).trans h.c3, h.len, h.nums, hb⟩
/-- The first place is let go: it is nil. -/
theorem LedIn.trim1 {r : List (Option Pk)} {A : Option Addr} {c : Nat} (h : LedIn w lo hi p o T cur (none :: r) fl next behind) (he : cur[o]? = some (.slice A (r.length + 1) c)) (hr : RowIn w lo hi A c (none :: r)) :
    LedIn (w.setCell ⟨p, o, none⟩ (.slice (tailA A c 1) r.length (c - 1))) lo hi p o T (cur.setIfInBounds o (.slice (tailA A c 1) r.length (c - 1))) r fl next behind := by
  have hr' : RowIn w lo hi (tailA A c 1) (c - 1) r := by
    obtain ⟨h1, h2, h3⟩ := hr
    simp only [List.length_cons] at h1
    refine ⟨by omega, by omega, ?_⟩
    rcases h3 with ⟨_, rfl⟩ | ⟨g, off, row, rfl, hl, hg, hrow, hs, hc⟩
    · omega
    · by_cases hc1 : c = 1
      · subst hc1
        obtain rfl : r = [] := List.eq_nil_of_length_eq_zero (by omega)
        exact .inr ⟨g, off, row, by unfold tailA; rw [if_pos rfl], hl, hg, hrow, by omega, fun i u hu => by simp at hu⟩
      · refine .inr ⟨g, off + 1, row, by unfold tailA; rw [if_neg hc1]; simp [Addr.add_lit], hl, hg, hrow, by omega, fun i u hu => ?_⟩
        have := hc (i + 1) u (by simpa using hu)
        rwa [show off + 1 + i = off + (i + 1) by omega]
  have hlen := h.len
  simp only [List.length_cons] at hlen
  refine ⟨h.hlo, h.hhi, by simpa [World.setCell] using h.hsz, h.hT, set_slot h.hp _ _, ⟨_, _, slot_set he, h.row_setP _ _ hr'⟩, (slot_other (by omega)).trans h.c1, (slot_other (by omega)).trans h.c2, (slot_other (by omega)).trans h.c3, by omega, fun i k hk => ?_, h.beh⟩
  have := h.nums (i + 1) k (by simpa using hk)
  simp only [List.length_cons] at this
  omega
/-- A place of the row is made nil. -/
theorem LedIn.setNil {g off c i : Nat} {row : Array Value} (h : LedIn w lo hi p o T cur os fl next behind) (he : cur[o]? = some (.slice (some ⟨g, off, none⟩) os.length c)) (hr : RowIn w lo hi (some ⟨g, off, none⟩) c os) (hrow : w.heap[g]? = some (.cells row 82 (0, 0))) (hi' : i < os.length) :
    LedIn (w.setCell ⟨g, off + i, none⟩ (.pointer none)) lo hi p o T cur (os.set i none) fl next behind ∧ RowIn (w.setCell ⟨g, off + i, none⟩ (.pointer none)) lo hi (some ⟨g, off, none⟩) c (os.set i none) := by
  have hne : p ≠ g := fun e => by
    subst e
    have := h.hp
    rw [hrow] at this
    simp only [Option.some.injEq, Obj.cells.injEq, and_true] at this
    exact h.hT.1 this.2.symm
  have hR : RowIn (w.setCell ⟨g, off + i, none⟩ (.pointer none)) lo hi (some ⟨g, off, none⟩) c (os.set i none) := by
    obtain ⟨h1, h2, h3⟩ := hr
    refine ⟨by rw [List.length_set]; exact h1, h2, ?_⟩
    rcases h3 with ⟨e, _⟩ | ⟨g', off', row', e, hl, hg, hrow', hs, hc⟩
    · cases e
    · simp only [Option.some.injEq, Addr.mk.injEq, and_true] at e
      obtain ⟨rfl, rfl⟩ := e
      rw [hrow] at hrow'
      simp only [Option.some.injEq, Obj.cells.injEq, and_true] at hrow'
      subst hrow'
      refine .inr ⟨g, off, row.setIfInBounds (off + i) (.pointer none), rfl, hl, hg, set_slot hrow _ _, by rw [Array.size_setIfInBounds]; exact hs, fun j u hu => ?_⟩
      rw [List.getElem?_set] at hu
      by_cases hj : i = j
      · subst hj
        rw [if_pos rfl, if_pos hi'] at hu
        simp only [Option.some.injEq] at hu
        subst hu
        exact ⟨_, slot_set (v := row[off + i]'(by omega)) (Array.getElem?_eq_getElem (by omega)), rfl⟩
      · rw [if_neg hj] at hu
        obtain ⟨v, hv, hp⟩ := hc j u hu
        refine ⟨v, (slot_other (by omega)).trans hv, hp.mono (Nat.le_refl _) fun b _ ⟨cs, hcs⟩ => Below.heap_setCell _ _ _ _ (fun e => ?_)⟩
        have e' : b = g := e
        subst e'
        rw [hrow] at hcs
        simp only [Option.some.injEq, Obj.cells.injEq, and_true] at hcs
        exact absurd hcs.2 (by decide)
  refine ⟨⟨h.hlo, h.hhi, by simpa [World.setCell] using h.hsz, h.hT, (Below.heap_setCell _ _ _ _ hne).trans h.hp, ⟨_, c, by rw [List.length_set]; exact he, hR⟩, h.c1, h.c2, h.c3, by rw [List.length_set]; exact h.len, fun j k hk => ?_, h.beh⟩, hR⟩
  rw [List.length_set]
  rw [List.getElem?_set] at hk
  split at hk
  · first | (simp at hk; done) | (split at hk <;> simp at hk)
  · exact h.nums j k hk
end
end Go.Proofs.Ytebfjphmlggacaa.Ld
