/- A packet is put behind a row of pointers. Conditions: as each theorem lists them. -/
import Derived.Test.YtebfjphmlggacaaJLg
import Derived.Deep.AppendSrc
set_option linter.unusedSimpArgs false
set_option linter.unusedVariables false

namespace Go.Proofs.Ytebfjphmlggacaa.Ld
open Go Go.RowKit Go.Proofs.Ytebfjphmlggacaa Go.Proofs.Ytebfjphmlggacaa.Sp

theorem infoQ : (Try.prog.info? 82).map (fun i => (i.zero, i.size, i.bytes)) = some (some (.pointer none), 1, 8) := by kernel_rfl

/-- Rows of pointers to packets alone have turned, none below lo. -/
structure RowMoved (lo : Nat) (w w' : World) : Prop where
  below : Below lo w w'
  kept : ∀ k, k < w.heap.size → (∀ row, w.heap[k]? ≠ some (.cells row 82 (0, 0))) → w'.heap[k]? = w.heap[k]?
theorem RowMoved.moved {lo : Nat} {w w' : World} (h : RowMoved lo w w') (p : Nat) : Moved lo p w w' := ⟨h.below, fun k hk _ hr => h.kept k hk hr⟩

theorem push_run (w : World) (lo : Nat) (A : Option Addr) (c : Nat) (os : List (Option Pk)) (hr : RowIn w lo w.heap.size A c os) (k : Pk) (b : Nat) (hb : lo ≤ b) (hk : w.heap[b]? = some (.cells k.cells 63 (0, 0))) (q : Nat) (hq : w.cell? ⟨q, 0, none⟩ = some (.pointer (some ⟨b, 0, none⟩))) (hm : os.length ≤ 1800000000000) (hlo : lo ≤ w.heap.size) (ty : TypeId) :
    ∃ A' c' w', (Builtin.append_ #[37, 37] ty #[.slice A os.length c, .slice (some ⟨q, 0, none⟩) 1 1]).run Try.prog w = .ok (.slice A' (os.length + 1) c') w' ∧ RowIn w' lo w'.heap.size A' c' (os ++ [some k]) ∧ RowMoved lo w w' := by
  obtain ⟨i0, hi, hz0, hz1, hz2⟩ := info_parts infoQ
  have hsrc : Src Try.prog i0.size 37 (.slice (some ⟨q, 0, none⟩) 1 1) 1 [.pointer (some ⟨b, 0, none⟩)] w := by
    rw [hz1]
    refine Src.ofSlice w (e' := 82) Try.underlying37 ⟨q, 0, none⟩ 1 1 _ rfl (fun j u hu => ?_) (fun u hu => ?_)
    · cases j with
      | zero => simp only [List.getElem?_cons_zero, Option.some.injEq] at hu; subst hu; rw [Addr.add_lit]; exact hq
      | succ j => simp at hu
    · simp only [List.mem_cons, List.not_mem_nil, or_false] at hu; subst hu; rfl
  have hblt := lt_of_block hk
  obtain ⟨h1, h2, h3⟩ := hr
  by_cases hroom : os.length + 1 ≤ c
  · obtain ⟨g, off, row, e, hl, hg, hrow, hs, hcs⟩ : ∃ g off row, A = some ⟨g, off, none⟩ ∧ lo ≤ g ∧ g < w.heap.size ∧ w.heap[g]? = some (.cells row 82 (0, 0)) ∧ off + c ≤ row.size ∧ ∀ i u, os[i]? = some u → ∃ v, row[off + i]? = some v ∧ PtrOk w lo w.heap.size v u := by
      rcases h3 with ⟨_, e⟩ | h
      · omega
      · exact h
    subst e
    have hbg : ∀ b' cs, w.heap[b']? = some (.cells cs 63 (0, 0)) → b' ≠ g := fun b' cs h e => by
      subst e
      rw [hrow] at h
      simp at h
    have hin : row[off + os.length]? = some (row[off + os.length]'(by omega)) := Array.getElem?_eq_getElem (by omega)
    have hrun := run_append_room_src (P := Try.prog) w 37 37 ty 82 i0 Try.underlying37 hi g off os.length c _ 1 _ hsrc hroom
      (fun j hj => by
        rw [hz1, Nat.mul_one]
        simp only [List.length_cons, List.length_nil] at hj
        obtain rfl : j = 0 := by omega
        rw [Nat.add_zero, cell_slot hrow hin]; rfl)
      (fun j hj => free_slot hrow)
    rw [hz1, Nat.mul_one] at hrun
    have ew : w.setCells g (off + os.length) [.pointer (some ⟨b, 0, none⟩)] = w.setCell ⟨g, off + os.length, none⟩ (.pointer (some ⟨b, 0, none⟩)) := rfl
    rw [ew] at hrun
    have hsame : ∀ k', k' ≠ g → (w.setCell ⟨g, off + os.length, none⟩ (.pointer (some ⟨b, 0, none⟩))).heap[k']? = w.heap[k']? := fun k' h => Below.heap_setCell _ _ _ _ h
    have hszw : (w.setCell ⟨g, off + os.length, none⟩ (.pointer (some ⟨b, 0, none⟩))).heap.size = w.heap.size := by simp [World.setCell]
    refine ⟨_, c, _, hrun, ⟨by rw [List.length_append]; exact hroom, h2, .inr ⟨g, off, row.setIfInBounds (off + os.length) (.pointer (some ⟨b, 0, none⟩)), rfl, hl, by rw [hszw]; exact hg, set_slot hrow _ _, by rw [Array.size_setIfInBounds]; exact hs, fun i u hu => ?_⟩⟩, (Below.refl _ _).setCell hl _, fun k' _ hr' => hsame k' (fun e => by subst e; exact hr' row hrow)⟩
    rw [hszw]
    by_cases hi' : i < os.length
    · rw [List.getElem?_append_left hi'] at hu
      obtain ⟨v, hv, hp⟩ := hcs i u hu
      exact ⟨v, (slot_other (by omega)).trans hv, hp.mono (Nat.le_refl _) fun b' _ ⟨cs, h⟩ => hsame b' (hbg b' cs h)⟩
    · rw [List.getElem?_append_right (by omega)] at hu
      obtain rfl : i = os.length := by
        have := (List.getElem?_eq_some_iff.1 hu).1
        simp only [List.length_cons, List.length_nil] at this
        omega
      rw [Nat.sub_self] at hu
      simp only [List.getElem?_cons_zero, Option.some.injEq] at hu
      subst hu
      exact ⟨_, slot_set hin, b, rfl, hb, hblt, (hsame b (hbg b _ hk)).trans hk⟩
  · have hcl : c = os.length := by omega
    obtain ⟨olds, hol, hoc⟩ : ∃ olds : List Value, (Builtin.firstCells i0.size os.length (.slice A os.length c)).run Try.prog w.drew = .ok olds.toArray w.drew ∧ olds.length = os.length ∧ ∀ i u, os[i]? = some u → ∃ v, olds[i]? = some v ∧ PtrOk w lo w.heap.size v u := by
      rcases h3 with ⟨rfl, hc0⟩ | ⟨g, off, row, rfl, hl, hg, hrow, hs, hcs⟩
      · have e0 : os = [] := List.eq_nil_of_length_eq_zero (by omega)
        subst e0
        exact ⟨[], run_firstCells_none w.drew _ _ _ _, rfl, fun i u hu => by rw [List.getElem?_nil] at hu; cases hu⟩
      · have hget : ∀ j, j < os.length → ((row.toList.drop off).take os.length)[j]? = row[off + j]? := fun j hj => by
          rw [List.getElem?_take, if_pos hj, List.getElem?_drop, Array.getElem?_toList]
        have hll : ((row.toList.drop off).take os.length).length = os.length := by
          rw [List.length_take, List.length_drop, show row.toList.length = row.size from rfl]
          have : os.length ≤ row.size - off := by omega
          exact Nat.min_eq_left this
        refine ⟨(row.toList.drop off).take os.length, ?_, hll, fun i u hu => ?_⟩
        · refine run_firstCells_some (P := Try.prog) w.drew _ os.length ⟨g, off, none⟩ os.length c _ (by rw [hll, hz1, Nat.mul_one]) (fun j u hu => ?_)
          have hj : j < os.length := by have := (List.getElem?_eq_some_iff.1 hu).1; omega
          rw [hget j hj] at hu
          rw [Addr.add_lit]
          exact cell_slot (w := w) hrow hu
        · have hj := (List.getElem?_eq_some_iff.1 hu).1
          obtain ⟨v, hv, hp⟩ := hcs i u hu
          exact ⟨v, (hget i hj).trans hv, hp⟩
    have hrun := run_append_grow_src (P := Try.prog) w 37 37 ty 82 i0 (.pointer none) Try.underlying37 hi hz0 A os.length c olds hol _ 1 _ hsrc (by omega) (by omega)
      (growslice_fits (by omega) (by rw [hz2]; omega))
    have hge := grownCap_ge w (os.length + 1) c 82
    have hle := grownCap_le_maxLen w (os.length + 1) c 82 (by unfold maxLen; omega)
    obtain ⟨cap, hcap⟩ : ∃ x, grownCap w (os.length + 1) c 82 = x := ⟨_, rfl⟩
    rw [hcap] at hrun hge hle
    obtain ⟨N, hN⟩ : ∃ N : Array Value, (olds ++ [Value.pointer (some ⟨b, 0, none⟩)]).toArray ++ Builtin.zeroCells (Value.pointer none).cells (cap - (os.length + 1)) = N := ⟨_, rfl⟩
    rw [hN] at hrun
    have hNs : N.size = cap := by
      rw [← hN, Array.size_append, size_zeroCells, List.size_toArray, List.length_append, hoc.1]
      show os.length + 1 + (cap - (os.length + 1)) * 1 = cap
      omega
    have hNg : ∀ j v, (olds ++ [Value.pointer (some ⟨b, 0, none⟩)])[j]? = some v → N[0 + j]? = some v := fun j v h => by
      have hj := (List.getElem?_eq_some_iff.1 h).1
      rw [← hN, Nat.zero_add, Array.getElem?_append_left (by rw [List.size_toArray]; exact hj), List.getElem?_toArray]
      exact h
    have hbl : Below w.heap.size w (w.drew.alloc (.cells N 82)) := ((Below.refl _ _).drew).alloc (Nat.le_refl _) _
    have hszw : (w.drew.alloc (.cells N 82)).heap.size = w.heap.size + 1 := by simp
    refine ⟨_, cap, _, hrun, ⟨by rw [List.length_append]; exact hge, hle, .inr ⟨w.heap.size, 0, N, rfl, hlo, by rw [hszw]; omega, heap_alloc_new w.drew _, by omega, fun i u hu => ?_⟩⟩, hbl.mono hlo, fun k' hk' _ => hbl.block k' hk'⟩
    rw [hszw]
    by_cases hi' : i < os.length
    · rw [List.getElem?_append_left hi'] at hu
      obtain ⟨v, hv, hp⟩ := hoc.2 i u hu
      exact ⟨v, hNg i v (by rw [List.getElem?_append_left (by rw [hoc.1]; exact hi')]; exact hv), hp.mono (by omega) fun b' hb' _ => hbl.block b' hb'⟩
    · rw [List.getElem?_append_right (by omega)] at hu
      obtain rfl : i = os.length := by
        have := (List.getElem?_eq_some_iff.1 hu).1
        simp only [List.length_cons, List.length_nil] at this
        omega
      rw [Nat.sub_self] at hu
      simp only [List.getElem?_cons_zero, Option.some.injEq] at hu
      subst hu
      refine ⟨_, hNg os.length _ (by rw [List.getElem?_append_right (by omega), hoc.1, Nat.sub_self]; rfl), b, rfl, hb, by omega, (hbl.block b hblt).trans hk⟩

theorem wpList_push {ops : Array Oper} {rest : List Oper} {o : Oper} {a : Act} {Q : Exit → Act → World → Prop} (hgd : o.guard = none) (s x : Operand)
    (ho : o.op = .call { callee := .builtin .append, args := #[s, x], argTypes := #[37, 37] })
    (w : World) (lo : Nat) (A : Option Addr) (c : Nat) (os : List (Option Pk)) (n : Nat) (hn : os.length = n) (hr : RowIn w lo w.heap.size A c os) (k : Pk) (b : Nat) (hb : lo ≤ b) (hk : w.heap[b]? = some (.cells k.cells 63 (0, 0))) (q : Nat) (hq : w.cell? ⟨q, 0, none⟩ = some (.pointer (some ⟨b, 0, none⟩))) (hm : os.length ≤ 1800000000000) (hlo : lo ≤ w.heap.size)
    (hs : a.eval s = .slice A n c) (hxv : a.eval x = .slice (some ⟨q, 0, none⟩) 1 1)
    (h : ∀ A' c' w', RowIn w' lo w'.heap.size A' c' (os ++ [some k]) → RowMoved lo w w' → wpList Try.prog ops Q rest (a.put o.dst (.slice A' (n + 1) c')) w') : wpList Try.prog ops Q (o :: rest) a w :=
  wpList_plain hgd fun K hK => by
    subst hn
    obtain ⟨A', c', w', hr, h2, h3⟩ := push_run w lo A c os hr k b hb hk q hq hm hlo o.type
    unfold Oper.wp execOp
    simp only [ho, resolve, invoke, builtin, Sem.run_bind, Sem.run_pure, Result.andThen_ok, List.map_toArray, List.map_cons, List.map_nil, hs, hxv, hr]
    exact hK _ _ (h A' c' w' h2 h3)

/-- The packet is in the row: the row and the next number are stored. -/
theorem LedIn.push {w w' : World} {lo hi hi' p o : Nat} {T : TypeId} {cur : Array Value} {os : List (Option Pk)} {fl next behind : Nat} (h : LedIn w lo hi p o T cur os fl next behind) (hp : w'.heap[p]? = some (.cells cur T (0, 0))) (hh : p < hi') (hs : hi' ≤ w'.heap.size) {A : Option Addr} {c : Nat} {k : Pk} (hr : RowIn w' lo hi' A c (os ++ [some k])) (hk : k.num = next) (v u : Value) (hv : v = .slice A (os.length + 1) c) (hu : u = .int .i64 ((next + 1 : Nat) : Int)) :
    LedIn ((w'.setCell ⟨p, o, none⟩ v).setCell ⟨p, o + 1, none⟩ u) lo hi' p o T ((cur.setIfInBounds o v).setIfInBounds (o + 1) u) (os ++ [some k]) fl (next + 1) behind := by
  subst hv hu
  obtain ⟨A0, c0, e0, _⟩ := h.row
  have hp1 := set_slot hp o (.slice A (os.length + 1) c)
  have hp2 := set_slot hp1 (o + 1) (.int .i64 ((next + 1 : Nat) : Int))
  have hne : ∀ (W : World) (j : Nat) (u : Value) (cur' : Array Value), W.heap[p]? = some (.cells cur' T (0, 0)) → RowIn W lo hi' A c (os ++ [some k]) → RowIn (W.setCell ⟨p, j, none⟩ u) lo hi' A c (os ++ [some k]) := fun W j u cur' hW hr =>
    hr.mono (Nat.le_refl _) fun b _ ⟨cs, t, ht, hcs⟩ => Below.heap_setCell _ _ _ _ (fun e => by
      have e' : b = p := e
      subst e'
      rw [hW] at hcs
      simp only [Option.some.injEq, Obj.cells.injEq, and_true] at hcs
      rcases ht with rfl | rfl
      · exact h.hT.2 hcs.2
      · exact h.hT.1 hcs.2)
  have hlen := h.len
  have hbeh := h.beh
  refine ⟨h.hlo, hh, by simpa [World.setCell] using hs, h.hT, hp2, ⟨A, c, ?_, hne _ _ _ _ hp1 (hne _ _ _ _ hp hr)⟩, slot_set ((slot_other (by omega)).trans h.c1), ?_, ?_, ?_, fun i k' hk' => ?_, by omega⟩
  · rw [List.length_append]; exact (slot_other (by omega)).trans (slot_set e0)
  · exact (slot_other (by omega)).trans ((slot_other (by omega)).trans h.c2)
  · exact (slot_other (by omega)).trans ((slot_other (by omega)).trans h.c3)
  · rw [List.length_append, List.length_cons, List.length_nil]; omega
  · rw [List.length_append, List.length_cons, List.length_nil]
    by_cases hi : i < os.length
    · rw [List.getElem?_append_left hi] at hk'
      have := h.nums i k' hk'
      omega
    · have hi2 := (List.getElem?_eq_some_iff.1 hk').1
      rw [List.length_append, List.length_cons, List.length_nil] at hi2
      obtain rfl : i = os.length := by omega
      rw [List.getElem?_append_right (by omega), Nat.sub_self] at hk'
      simp only [List.getElem?_cons_zero, Option.some.injEq] at hk'
      subst hk'
      omega
end Go.Proofs.Ytebfjphmlggacaa.Ld
