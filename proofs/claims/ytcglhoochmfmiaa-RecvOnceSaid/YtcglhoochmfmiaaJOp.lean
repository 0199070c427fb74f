/- Arguments opened: a slice of numbers, a slice of structs of numbers. Conditions: as each theorem lists them. -/
import Derived.Test.YtcglhoochmfmiaaJMm
import Derived.SizedLaws
import Derived.OpenShut
import Derived.Deep.Slices
import Derived.Deep.Fields
import Derived.ChangeSame
import Derived.ChangeAt
import Derived.Stop.Joined
set_option linter.unusedSimpArgs false
set_option linter.unusedVariables false
set_option maxRecDepth 100000

namespace Go.Proofs.Ytcglhoochmfmiaa
open Go Go.RowKit Go.ChangeShapes Go.WideShapes Go.ChangeAt Go.WideMaps Go.WideElems

/-- What a row of structs of numbers has in memory, cell by cell. -/
theorem rows_cells {H : Type} {enc : TypeId × Value → H} {P : Program} {W : World} {t e : TypeId} {fs : Array Field} {fuel : Nat} {cs : List Value} {x : DataW H × List MemPlace} (ht : P.underlying t = some (.slice e)) (he : P.underlying e = some (.struct fs))
    (hone : Deep.oneCellFields P fs = true) (hC : P.cellsOf e = fs.size) (hint : ∀ f ∈ fs, P.underlying f.type = some (.int .i64)) (h : DataW.trod enc P W 0 (fun _ => true) true fuel t cs = some x) :
    (cs = [.slice none 0 0] ∧ x.1 = .nil) ∨
    ∃ (a : Addr) (len cap : Nat) (es sp : List (DataW H)), cs = [.slice (some a) len cap] ∧ len ≤ cap ∧ cap ≤ maxLen ∧ x.1 = .slice es sp ∧ len ≤ es.length + sp.length ∧
      ∀ j, j < len * fs.size → ∃ z : Int, W.cell? (a.add j) = some (.int .i64 z) ∧ (Lit.int .i64 z).wf = true := by
  rcases Deep.open_slice ht h with ⟨h1, h2⟩ | ⟨a, len, cap, m, n, D, Pl, hcs, _, hl, hm, hmm, hx, hi⟩
  · exact .inl ⟨h1, by rw [h2]⟩
  · simp only [if_true] at hmm
    subst hmm
    refine .inr ⟨a, len, m, _, _, hcs, hl, hm, by rw [hx], by simp, fun j hj => ?_⟩
    have hpos : 0 < fs.size := by
      rcases Nat.eq_zero_or_pos fs.size with h0 | h0
      · rw [h0] at hj; omega
      · exact h0
    have hdl : j / fs.size < len := (Nat.div_lt_iff_lt_mul hpos).2 hj
    have hml : j % fs.size < fs.size := Nat.mod_lt _ hpos
    obtain ⟨cs', hc, ht'⟩ := hi (j / fs.size) (by omega)
    rw [hC] at hc
    obtain ⟨ys, n', _, _, _, _, hf⟩ := DataW.trod_struct he ht'
    obtain ⟨_, hcl, hat⟩ := World.cells?_some hc
    have hfj : fs[j % fs.size]? = some (fs[j % fs.size]'hml) := Array.getElem?_eq_getElem hml
    obtain ⟨ho, hk⟩ := Deep.hone_of hone _ _ hfj
    have h1 := hf _ _ hfj
    rw [ho, hk] at h1
    have h2 : (cs'.drop (j % fs.size)).take 1 = [cs'[j % fs.size]'(by omega)] := by
      rw [List.drop_eq_getElem_cons (by omega)]
      rfl
    rw [h2] at h1
    have hys : ys[j % fs.size]? ≠ none := by
      intro hn
      rw [List.getElem?_eq_none_iff] at hn
      have : ys.length = fs.size := by assumption
      omega
    obtain ⟨y, hy⟩ := Option.ne_none_iff_exists'.1 hys
    rw [hy] at h1
    obtain ⟨z, hz, _, hw⟩ := DataW.trod_int (hint _ (by simp)) h1
    refine ⟨z, ?_, hw⟩
    have hcell := hat (j % fs.size) hml
    rw [List.getElem?_eq_getElem (by omega)] at hcell
    simp only [List.cons.injEq, and_true] at hz
    rw [hz] at hcell
    rw [← hcell, Deep.add_add, show j / fs.size * fs.size + j % fs.size = j from Nat.div_add_mod' _ _]

theorem list_of (n : Nat) (p : Nat → Int → Prop) (h : ∀ j, j < n → ∃ z, p j z) : ∃ zs : List Int, zs.length = n ∧ ∀ j, j < n → p j (zs.getD j 0) := by
  induction n with
  | zero => exact ⟨[], rfl, fun j hj => by omega⟩
  | succ n ih =>
    obtain ⟨zs, hl, hz⟩ := ih fun j hj => h j (by omega)
    obtain ⟨z, hzn⟩ := h n (by omega)
    refine ⟨zs ++ [z], by simp [hl], fun j hj => ?_⟩
    rcases Nat.lt_or_ge j n with h1 | h1
    · have := hz j h1
      simpa [List.getD, List.getElem?_append_left (show j < zs.length by omega)] using this
    · obtain rfl : j = n := by omega
      simpa [List.getD, ← hl] using hzn

/-- A slice of structs of k numbers each, as an argument. -/
structure IsRows (W : World) (A : Option Addr) (cap n k : Nat) (zs : List Int) : Prop where
  len : zs.length = n * k
  rd : Rd W W.heap.size A (n * k) (ints zs)
  lt : ∀ z ∈ zs, -9223372036854775808 ≤ z ∧ z ≤ 9223372036854775807
  cap : n ≤ cap
  reach : n * 8 * k ≤ 140737488351232

theorem open_rows {H : Type} {enc : TypeId × Value → H} {P : Program} {W : World} {base : Nat} {t e : TypeId} {fs : Array Field} {v : Value} {d : DataW H} {p : List MemPlace} (ht : P.underlying t = some (.slice e)) (he : P.underlying e = some (.struct fs))
    (hone : Deep.oneCellFields P fs = true) (hC : P.cellsOf e = fs.size) (hint : ∀ f ∈ fs, P.underlying f.type = some (.int .i64)) (hby : P.bytesOf e = 8 * fs.size) {ts : List TypeId} {ds : List (DataW H)}
    (hval : Value.okWide P W .any base t v) (h : DataW.Trod enc P W 0 (fun _ => true) true t v d p) (hs : (DataW.weightsEach P ts ds).all (· ≤ reachBytes) = true) (j : Nat) (hj : ts[j]? = some t) (hd : ds[j]? = some d) :
    ∃ A n cap zs, v = .slice A n cap ∧ IsRows W A cap n fs.size zs := by
  obtain ⟨a0, len0, cap0, rfl⟩ := okWide_slice ht hval
  obtain ⟨fuel, hf⟩ := h
  rcases rows_cells ht he hone hC hint hf with ⟨hcs, hd'⟩ | ⟨x, len, cap, es, sp, hcs, hl, hm, hd', hle, hcell⟩
  · simp [Value.cells] at hcs
    obtain ⟨rfl, rfl, rfl⟩ := hcs
    exact ⟨none, 0, 0, [], rfl, ⟨by simp, by rw [Nat.zero_mul]; exact Rd.nil _ _ _, (fun z hz => by cases hz), Nat.le_refl _, by simp⟩⟩
  · simp [Value.cells] at hcs
    obtain ⟨rfl, rfl, rfl⟩ := hcs
    obtain ⟨zs, hzl, hz⟩ := list_of (len0 * fs.size) (fun j z => W.cell? (x.add j) = some (.int .i64 z) ∧ (Lit.int .i64 z).wf = true) hcell
    simp only at hd'
    subst hd'
    refine ⟨some x, len0, cap0, zs, rfl, ⟨hzl, ⟨by rw [ints_len, hzl], fun h0 => ?_⟩, fun z hzm => ?_, hl, ?_⟩⟩
    · obtain ⟨b, off, spot⟩ := x
      have hc0 := (hz 0 h0).1
      have hspot : spot = none := by simpa [Addr.add] using World.cell?_spot hc0
      subst hspot
      refine ⟨b, off, rfl, World.block_lt_of_cell? W _ hc0, fun j u hu => ?_⟩
      have hjl : j < zs.length := by
        have := (List.getElem?_eq_some_iff.1 hu).1
        rwa [ints_len] at this
      rw [ints_get zs j hjl] at hu
      cases hu
      have := (hz j (by omega)).1
      rwa [Addr.add_lit] at this
    · obtain ⟨j, hj, rfl⟩ := List.mem_iff_getElem.1 hzm
      have := (hz j (by omega)).2
      rw [show zs.getD j 0 = zs[j] by simp [List.getD, hj]] at this
      exact bounds_i64 this
    · have := sized_slice hs hj hd ht
      rw [hby] at this
      unfold reachBytes at this
      have : len0 * (8 * fs.size) ≤ 140737488351232 := Nat.le_trans (Nat.mul_le_mul_right _ hle) this
      rwa [Nat.mul_assoc]

/-- A slice of numbers, as an argument. -/
structure IsInts (W : World) (A : Option Addr) (cap : Nat) (l : List Int) : Prop where
  rd : Rd W W.heap.size A l.length (ints l)
  lt : ∀ n ∈ l, -9223372036854775808 ≤ n ∧ n ≤ 9223372036854775807
  cap : l.length ≤ cap
  reach : l.length * 8 ≤ 140737488351232

theorem open_nums {H : Type} {enc : TypeId × Value → H} {P : Program} {W : World} {base : Nat} {t e : TypeId} {k : IntKind} {v : Value} {d : DataW H} {p : List MemPlace} (ht : P.underlying t = some (.slice e)) (he : P.underlying e = some (.int k)) (hc : P.cellsOf e = 1)
    (hval : Value.okWide P W .any base t v) (h : DataW.Trod enc P W 0 (fun _ => true) true t v d p) :
    ∃ A cap, ∃ zs : List Int, v = .slice A zs.length cap ∧ zs.length ≤ cap ∧ (∀ n ∈ zs, (Lit.int k n).wf = true) ∧ Rd W W.heap.size A zs.length (zs.map (Value.int k)) ∧ (d = .nil ∧ zs = [] ∨ ∃ es sp, d = .slice es sp ∧ zs.length ≤ es.length + sp.length) := by
  obtain ⟨a0, len0, cap0, rfl⟩ := okWide_slice ht hval
  obtain ⟨fuel, hf⟩ := h
  rcases open_ints ht he hc hf with ⟨hcs, hd⟩ | ⟨x, len, cap, zs, hcs, _, hl, hm, hz, hd, hcell, hwz⟩
  · simp [Value.cells] at hcs
    obtain ⟨rfl, rfl, rfl⟩ := hcs
    simp only [Prod.mk.injEq] at hd
    exact ⟨none, 0, [], rfl, Nat.le_refl _, fun n hn => (by cases hn), ⟨rfl, fun h => (by cases h)⟩, .inl ⟨hd.1, rfl⟩⟩
  · simp [Value.cells] at hcs
    obtain ⟨rfl, rfl, rfl⟩ := hcs
    simp only [if_true] at hz
    have hlen : (zs.take len0).length = len0 := by rw [List.length_take]; omega
    refine ⟨some x, cap0, zs.take len0, by rw [hlen], by omega, fun n hn => hwz n (List.mem_of_mem_take hn), ⟨by simp, fun h0 => ?_⟩, .inr ⟨_, _, (Prod.mk.inj hd).1, by simp [lits]⟩⟩
    rw [hlen] at h0
    obtain ⟨b, off, spot⟩ := x
    have hc0 := hcell 0 (by omega)
    have hspot : spot = none := by simpa [Addr.add] using World.cell?_spot hc0
    subst hspot
    refine ⟨b, off, rfl, World.block_lt_of_cell? W _ hc0, fun j u hu => ?_⟩
    rw [List.getElem?_map, Option.map_eq_some_iff] at hu
    obtain ⟨z, hz', rfl⟩ := hu
    rw [List.getElem?_take] at hz'
    split at hz'
    · have hj := (List.getElem?_eq_some_iff.1 hz').1
      have := hcell j hj
      rw [Addr.add_lit] at this
      rw [this]
      simp [List.getD, hz']
    · cases hz'

theorem open_intl {H : Type} {enc : TypeId × Value → H} {W : World} {base : Nat} {v : Value} {d : DataW H} {p : List MemPlace} {ts : List TypeId} {ds : List (DataW H)} (hval : Value.okWide Try.prog W .any base 41 v) (h : DataW.Trod enc Try.prog W 0 (fun _ => true) true 41 v d p)
    (hs : (DataW.weightsEach Try.prog ts ds).all (· ≤ reachBytes) = true) (j : Nat) (hj : ts[j]? = some 41) (hd : ds[j]? = some d) : ∃ A cap l, v = .slice A l.length cap ∧ IsInts W A cap l := by
  obtain ⟨A, cap, zs, rfl, h1, h2, h3, h4⟩ := open_nums Try.underlying41 Try.underlying3 (by kernel_rfl) hval h
  refine ⟨A, cap, zs, rfl, ⟨h3, fun n hn => bounds_i64 (h2 n hn), h1, ?_⟩⟩
  rcases h4 with ⟨_, rfl⟩ | ⟨es, sp, rfl, h4⟩
  · simp
  · have := sized_slice hs hj hd Try.underlying41
    rw [show Try.prog.bytesOf 3 = 8 by kernel_rfl] at this
    unfold reachBytes at this
    omega
end Go.Proofs.Ytcglhoochmfmiaa
