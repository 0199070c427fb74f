/- For a statement of the second form: arguments of numbers, of slices of them, of structs of them, opened, with their bulk. Conditions: as each theorem lists them. -/
import Derived.Test.YtoglpjgmnojdjaaU2
import Derived.Test.YtoglpjgmnojdjaaRows
set_option linter.unusedSimpArgs false
set_option linter.unusedVariables false
namespace Go.Proofs.Ytoglpjgmnojdjaa.UpN
open Go Go.RowKit Go.ChangeShapes Go.WideShapes Go.ChangeAt Go.WideMaps Go.WideElems

theorem one_le {H : Type} (d : DataW H) : 1 ≤ Rows.uptoBulk d := by
  cases d with
  | lit l => cases l <;> simp [Rows.uptoBulk]
  | nil => simp [Rows.uptoBulk]
  | ptr d => simp [Rows.uptoBulk]
  | slice elems spare => simp [Rows.uptoBulk]
  | agg parts => simp [Rows.uptoBulk]
  | iface t d => simp [Rows.uptoBulk]
  | map entries => simp [Rows.uptoBulk]
  | held h => simp [Rows.uptoBulk]
theorem length_le {H : Type} (l : List (DataW H)) : l.length ≤ Rows.uptoBulkAll l := by
  induction l with
  | nil => simp [Rows.uptoBulkAll]
  | cons x r ih => have := one_le x; simp only [Rows.uptoBulkAll, List.length_cons]; omega
theorem mem_le {H : Type} {x : DataW H} : ∀ {l : List (DataW H)}, x ∈ l → Rows.uptoBulk x ≤ Rows.uptoBulkAll l
  | y :: l, h => by
    simp only [Rows.uptoBulkAll]
    rcases List.mem_cons.1 h with rfl | h
    · omega
    · have := mem_le h; omega

set_option maxRecDepth 100000 in
theorem open_intl {H : Type} {enc : TypeId × Value → H} {W : World} {base : Nat} {v : Value} {d : DataW H} {p : List MemPlace} {ts : List TypeId} {ds : List (DataW H)} (hval : Value.okWide Try.prog W .any base 22 v) (h : DataW.Trod enc Try.prog W 0 (fun _ => true) true 22 v d p)
    (hs : (DataW.weightsEach Try.prog ts ds).all (· ≤ reachBytes) = true) (j : Nat) (hj : ts[j]? = some 22) (hd : ds[j]? = some d) : ∃ A cap l, v = .slice A l.length cap ∧ IsInts W A cap l ∧ l.length ≤ Rows.uptoBulk d := by
  obtain ⟨A, cap, zs, e, h1, h2, h3, h4⟩ := open_nums Try.underlying22 Try.underlying3 (by kernel_rfl) hval h
  obtain ⟨A', cap', bs, e', hb⟩ := Proofs.Ytoglpjgmnojdjaa.open_intl hval h hs j hj hd
  rw [e] at e'
  simp only [Value.slice.injEq] at e'
  refine ⟨A', cap', bs, by rw [e]; simp only [Value.slice.injEq]; exact e', hb, ?_⟩
  rw [← e'.2.1]
  rcases h4 with ⟨_, h4⟩ | ⟨es, sp, rfl, h4⟩
  · subst h4
    simp
  · have h5 := length_le es
    have h6 := length_le sp
    simp only [Rows.uptoBulk]
    omega

set_option maxRecDepth 100000 in
theorem open_raws {H : Type} {enc : TypeId × Value → H} {W : World} {base : Nat} {v : Value} {d : DataW H} {p : List MemPlace} {ts : List TypeId} {ds : List (DataW H)} (hval : Value.okWide Try.prog W .any base 24 v) (h : DataW.Trod enc Try.prog W 0 (fun _ => true) true 24 v d p)
    (hs : (DataW.weightsEach Try.prog ts ds).all (· ≤ reachBytes) = true) (j : Nat) (hj : ts[j]? = some 24) (hd : ds[j]? = some d) : ∃ A n cap zs, v = .slice A n cap ∧ IsRows W A cap n 3 zs ∧ n ≤ Rows.uptoBulk d := by
  obtain ⟨A, n, cap, zs, e, hw⟩ := open_rows Try.underlying24 Try.underlying37 (by kernel_rfl) (by kernel_rfl) (by intro f hf; simp at hf; rcases hf with rfl | rfl | rfl <;> exact Try.underlying3) (by kernel_rfl) hval h hs j hj hd
  refine ⟨A, n, cap, zs, e, hw, ?_⟩
  obtain ⟨fuel, hf⟩ := h
  rcases rows_cells Try.underlying24 Try.underlying37 (by kernel_rfl) (by kernel_rfl) (by intro f hf; simp at hf; rcases hf with rfl | rfl | rfl <;> exact Try.underlying3) hf with ⟨hcs, _⟩ | ⟨x, len, cap', es, sp, hcs, _, _, hd', hle, _⟩
  · rw [e] at hcs
    simp [Value.cells] at hcs
    rw [hcs.2.1]; exact Nat.zero_le _
  · rw [e] at hcs
    simp [Value.cells] at hcs
    rw [hcs.2.1]
    simp only at hd'
    rw [hd']
    have h5 := length_le es
    have h6 := length_le sp
    simp only [Rows.uptoBulk]
    omega

set_option maxRecDepth 100000 in
theorem inner_up {H : Type} {enc : TypeId × Value → H} {W : World} {fuel : Nat} {v : Value} {x : DataW H × List MemPlace} (h : DataW.trod enc Try.prog W 0 (fun _ => true) true fuel 22 [v] = some x) :
    ∃ A l c, v = .slice A (List.length l) c ∧ l.length ≤ c ∧ Rd W W.heap.size A l.length (ints l) ∧ (∀ y ∈ l, -9223372036854775808 ≤ y ∧ y ≤ 9223372036854775807) ∧ l.length ≤ Rows.uptoBulk x.1 := by
  rcases open_ints Try.underlying22 Try.underlying3 (by kernel_rfl) h with ⟨hcs, hd⟩ | ⟨a, len0, cap0, zs, hcs, _, hl, hm, hz, hd, hcell, hwz⟩
  · simp only [List.cons.injEq, and_true] at hcs
    subst hcs
    exact ⟨none, [], 0, rfl, Nat.le_refl _, Rd.nil _ _ _, (fun y hy => by cases hy), Nat.zero_le _⟩
  · simp only [List.cons.injEq, and_true] at hcs
    subst hcs
    simp only [if_true] at hz
    have hlen : (zs.take len0).length = len0 := by rw [List.length_take]; omega
    refine ⟨some a, zs.take len0, cap0, by rw [hlen], by omega, ⟨by rw [ints_len], fun h0 => ?_⟩, fun y hy => bounds_i64 (hwz y (List.mem_of_mem_take hy)), ?_⟩
    · rw [hlen] at h0
      obtain ⟨b, off, spot⟩ := a
      have hc0 := hcell 0 (by omega)
      have hspot : spot = none := by simpa [Addr.add] using World.cell?_spot hc0
      subst hspot
      refine ⟨b, off, rfl, World.block_lt_of_cell? W _ hc0, fun j u hu => ?_⟩
      rw [ints, List.getElem?_map, Option.map_eq_some_iff] at hu
      obtain ⟨z, hz', rfl⟩ := hu
      rw [List.getElem?_take] at hz'
      split at hz'
      · have hj := (List.getElem?_eq_some_iff.1 hz').1
        have := hcell j hj
        rw [Addr.add_lit] at this
        rw [this]
        simp [List.getD, hz']
      · cases hz'
    · rw [hd, hlen]
      have h5 := length_le (H := H) (lits .i64 (zs.take len0))
      simp only [Rows.uptoBulk]
      have h6 : (lits (H := H) .i64 (zs.take len0)).length = len0 := by simp [lits]; omega
      omega

theorem lists_ofI (n : Nat) (p : Nat → List Int → Prop) (h : ∀ j, j < n → ∃ z, p j z) : ∃ zs : List (List Int), zs.length = n ∧ ∀ j, j < n → p j (zs.getD j []) := by
  induction n with
  | zero => exact ⟨[], rfl, fun j hj => by omega⟩
  | succ n ih =>
    obtain ⟨zs, hl, hz⟩ := ih fun j hj => h j (by omega)
    obtain ⟨z, hzn⟩ := h n (by omega)
    refine ⟨zs ++ [z], by simp [hl], fun j hj => ?_⟩
    rcases Nat.lt_or_ge j n with h1 | h1
    · have := hz j h1
      simpa [List.getD, List.getElem?_append_left (show j < zs.length by omega)] using this
    · obtain rfl : j = n := by omega
      simpa [List.getD, ← hl] using hzn

set_option maxRecDepth 100000 in
theorem open_numss {H : Type} {enc : TypeId × Value → H} {W : World} {base : Nat} {v : Value} {d : DataW H} {p : List MemPlace} (hval : Value.okWide Try.prog W .any base 23 v) (h : DataW.Trod enc Try.prog W 0 (fun _ => true) true 23 v d p) (hbulk : Rows.uptoBulk d ≤ 1048576) :
    ∃ A cap ps vs, v = .slice A (List.length ps) cap ∧ Tells.IsNums W A cap ps vs := by
  obtain ⟨a0, len0, cap0, rfl⟩ := okWide_slice Try.underlying23 hval
  obtain ⟨fuel, hf⟩ := h
  rcases Deep.open_slice1 Try.underlying23 (by kernel_rfl) hf with ⟨hcs, _⟩ | ⟨a, len, cap, m, n, V, D, Pl, hcs, _, hl, hm, hmm, hx, hi⟩
  · simp [Value.cells] at hcs
    obtain ⟨rfl, rfl, rfl⟩ := hcs
    exact ⟨none, 0, [], [], rfl, Rd.nil _ _ _, Nat.le_refl _, by simp, fun j hj => by simp at hj⟩
  · simp [Value.cells] at hcs
    obtain ⟨rfl, rfl, rfl⟩ := hcs
    simp only [if_true] at hmm
    subst hmm
    simp only [Prod.mk.injEq] at hx
    rw [hx.1] at hbulk
    simp only [Rows.uptoBulk] at hbulk
    have hp : ∀ j, j < len0 → ∃ l : List Int, ∃ Aj cj, V j = .slice Aj l.length cj ∧ l.length ≤ cj ∧ Rd W W.heap.size Aj l.length (ints l) ∧ (∀ y ∈ l, -9223372036854775808 ≤ y ∧ y ≤ 9223372036854775807) ∧ l.length ≤ 1048576 := fun j hj => by
      obtain ⟨Aj, l, cj, h1, h2, h3, h4, h5⟩ := inner_up (hi j (by omega)).2
      have h6 := mem_le (l := (List.range len0).map D) (List.mem_map.2 ⟨j, by simpa using hj, rfl⟩)
      simp only at h5
      exact ⟨l, Aj, cj, h1, h2, h3, h4, by omega⟩
    obtain ⟨ps, hpl, hps⟩ := lists_ofI len0 _ hp
    have hlen := length_le ((List.range len0).map D)
    simp only [List.length_map, List.length_range] at hlen
    refine ⟨some a, m, ps, (List.range len0).map V, by rw [hpl], ⟨⟨by simp [hpl], fun h0 => ?_⟩, by omega, by omega, fun j hj => ?_⟩⟩
    · obtain ⟨b, off, spot⟩ := a
      have hc0 := (hi 0 (by omega)).1
      have hspot : spot = none := by simpa [Addr.add] using World.cell?_spot hc0
      subst hspot
      refine ⟨b, off, rfl, World.block_lt_of_cell? W _ hc0, fun j u hu => ?_⟩
      rw [List.getElem?_map, Option.map_eq_some_iff] at hu
      obtain ⟨z, hz', rfl⟩ := hu
      obtain ⟨hjl, rfl⟩ := List.getElem?_eq_some_iff.1 hz'
      simp only [List.length_range] at hjl
      simp only [List.getElem_range]
      have := (hi j (by omega)).1
      rwa [Addr.add_lit] at this
    · rw [hpl] at hj
      obtain ⟨Aj, cj, h1, h2, h3, h4, h5⟩ := hps j hj
      exact ⟨Aj, cj, by simp [hj, h1], h2, h3, h4, h5⟩
end Go.Proofs.Ytoglpjgmnojdjaa.UpN
