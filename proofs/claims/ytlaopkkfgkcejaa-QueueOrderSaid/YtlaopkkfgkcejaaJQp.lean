/- QueueOrder: what is held. Conditions: as each theorem lists them. -/
import Derived.Test.YtlaopkkfgkcejaaJQt
import Derived.Test.YtlaopkkfgkcejaaJWq
set_option linter.unusedSimpArgs false
set_option linter.unusedVariables false

namespace Go.Proofs.Ytlaopkkfgkcejaa.Qu
open Go Go.RowKit Go.Proofs.Ytlaopkkfgkcejaa

/-- What the law puts. -/
def putsD (ps : List (List Nat)) (n : Nat) : List (Int × List Nat) := (List.range n).map fun i : Nat => ((i : Int), (ps.getD i []).take 30 ++ [i])
theorem puts_succ (ps : List (List Nat)) (n : Nat) : putsD ps (n + 1) = putsD ps n ++ [((n : Int), (ps.getD n []).take 30 ++ [n])] := by
  simp [putsD, List.range_succ]
theorem puts_len (ps : List (List Nat)) (n : Nat) : (putsD ps n).length = n := by simp [putsD]
theorem puts_fit (ps : List (List Nat)) (n : Nat) : ∀ d ∈ putsD ps n, fitD d = true := by
  intro d hd
  simp only [putsD, List.mem_map] at hd
  obtain ⟨i, _, rfl⟩ := hd
  simp only [fitD, List.length_append, List.length_take, List.length_cons, List.length_nil, Bool.and_eq_true, decide_eq_true_eq]
  omega
theorem puts_take (ps : List (List Nat)) : ∀ n k, k ≤ n → (putsD ps n).take k = putsD ps k := by
  intro n k h
  simp only [putsD, ← List.map_take, List.take_range, Nat.min_eq_left h]
theorem puts_get (ps : List (List Nat)) (n k : Nat) (h : k < n) : (putsD ps n)[k]? = some ((k : Int), (ps.getD k []).take 30 ++ [k]) := by
  simp [putsD, h]
theorem putD_fits {m : Nat} {ds : List (Int × List Nat)} (hf : ∀ d ∈ ds, fitD d = true) (h : m + ds.length ≤ 32) : putD m ds = ds := by
  unfold putD
  rw [List.filter_eq_self.2 hf, List.take_of_length_le (by omega)]
theorem keep_nil (ds : List (Int × List Nat)) : ds.filter (keepD []) = ds := List.filter_eq_self.2 fun d _ => by simp [keepD]
theorem keep_snoc (l : List Int) (y : Int) (ds : List (Int × List Nat)) : (ds.filter (keepD l)).filter (keepD [y]) = ds.filter (keepD (l ++ [y])) := by
  rw [List.filter_filter]
  refine List.filter_congr fun d _ => ?_
  simp only [keepD, List.mem_append, List.mem_singleton]
  by_cases h1 : d.1 ∈ l <;> by_cases h2 : d.1 = y <;> simp [h1, h2]

section
variable {w w' w0 : World} {p lo n k : Nat} {v : Value} {q : It} {qs : List It} {xs : List Value}
theorem own_at (h : w.ownsRow lo n k v p xs) (hs : w.heap.size ≤ w'.heap.size) (hb : ∀ b, lo ≤ b → b < w.heap.size → w'.heap[b]? = w.heap[b]?) : w'.ownsRow lo n k v p xs := by
  refine ⟨h.1, ?_⟩
  rcases h.2 with h | ⟨g, cap, cur, e, h1, h2, h3⟩
  · exact .inl h
  · exact .inr ⟨g, cap, cur, e, h1, (hb g h1 (Array.getElem?_eq_some_iff.1 h2).1).trans h2, h3⟩
theorem RowQ.keep (h : RowQ w lo v k qs) (hs : w.heap.size ≤ w'.heap.size) (hb : ∀ b, lo ≤ b → b < w.heap.size → w'.heap[b]? = w.heap[b]?) : RowQ w' lo v k qs :=
  ⟨h.1, own_at h.2.1 hs hb, fun q hq => (h.2.2 q hq).keep hs fun b h1 h2 _ => hb b h1 h2⟩
theorem RowQ.grown (h : RowQ w lo v k qs) (hg : w.grownBy w' (some p)) (hp : p < lo) : RowQ w' lo v k qs := h.keep hg.size fun b h1 h2 => hg.block b h2 (by simp; omega)
theorem LQ.keep {wr : World} {ds : List (Int × List Nat)} (h : LQ w0 wr p lo ds) (hs : wr.heap.size ≤ w'.heap.size) (hp : w'.heap[p]? = wr.heap[p]?) (hb : ∀ b, lo ≤ b → b < wr.heap.size → w'.heap[b]? = wr.heap[b]?) (hB : Below w0.heap.size wr w') : LQ w0 w' p lo ds := by
  obtain ⟨ks, h1, h2, h3, h4, h5⟩ := h
  exact ⟨ks, h1, QAt.same h2 hs hp hb, h3.trans hB, h4, Nat.le_trans h5 hs⟩
theorem At.head {A : Option Addr} (h : At w lo A (n * 2) (its qs)) (k : Nat) (hk : k ≤ n) : At w lo A (k * 2) (its (qs.take k)) := by
  have hl : qs.length = n := by have := h.1; rw [its_len] at this; omega
  refine ⟨by rw [its_len, List.length_take]; omega, fun h0 => ?_⟩
  obtain ⟨b, off, e, h1, h2, h3⟩ := h.2 (by omega)
  refine ⟨b, off, e, h1, h2, fun j u hu => h3 j u ?_⟩
  have := its_app (qs.take k) (qs.drop k)
  rw [List.take_append_drop] at this
  rw [this, List.getElem?_append_left (List.getElem?_eq_some_iff.1 hu).1]
  exact hu
theorem At.rest {b off : Nat} (h : At w lo (some ⟨b, off, none⟩) (n * 2) (its qs)) (k : Nat) (hk : k ≤ n) : At w lo (some ⟨b, off + k * 2, none⟩) ((n - k) * 2) (its (qs.drop k)) := by
  have hl : qs.length = n := by have := h.1; rw [its_len] at this; omega
  refine ⟨by rw [its_len, List.length_drop]; omega, fun h0 => ?_⟩
  obtain ⟨b', off', e, h1, h2, h3⟩ := h.2 (by omega)
  cases e
  refine ⟨b, off + k * 2, rfl, h1, h2, fun j u hu => ?_⟩
  rw [Nat.add_assoc]
  refine h3 (k * 2 + j) u ?_
  have := its_app (qs.take k) (qs.drop k)
  rw [List.take_append_drop] at this
  have hl2 : (its (qs.take k)).length = k * 2 := by rw [its_len, List.length_take]; omega
  rw [this, List.getElem?_append_right (by omega), hl2, show k * 2 + j - k * 2 = j by omega]
  exact hu
theorem At.tail {A : Option Addr} (h : At w lo A (n * 2) (its qs)) (k c : Nat) (hk : k ≤ n) (hc : n ≤ c) : At w lo (if c = k then A else A.map (fun x => x.add (k * 2))) ((n - k) * 2) (its (qs.drop k)) := by
  by_cases h0 : n - k = 0
  · rw [h0]
    have hl : qs.length = n := by have := h.1; rw [its_len] at this; omega
    exact ⟨by rw [its_len, List.length_drop]; omega, fun h => by omega⟩
  · rw [if_neg (by omega)]
    obtain ⟨b, off, rfl, _⟩ := h.2 (by omega)
    have := h.rest k hk
    simpa [Addr.add_lit] using this
end
/-- Its block of bytes can be written. -/
def FzA (w : World) (lo : Nat) (A : Option Addr) : Prop := ∃ b off cur, A = some ⟨b, off, none⟩ ∧ lo ≤ b ∧ w.heap[b]? = some (.cells cur 5 (0, 0))
theorem FzA.below {w w' : World} {lo : Nat} {A : Option Addr} (h : FzA w lo A) (hb : Below w.heap.size w w') : FzA w' lo A := by
  obtain ⟨b, off, cur, e, h1, h2⟩ := h
  exact ⟨b, off, cur, e, h1, (hb.block b (Array.getElem?_eq_some_iff.1 h2).1).trans h2⟩
theorem FzA.row {w w' : World} {lo base n : Nat} {A : Option Addr} {v : Value} {xs : List Value} (h : FzA w lo A) (ho : w.ownsRow base 24 2 v n xs) (hg : w.grownBy w' v.ownBlock) : FzA w' lo A := by
  obtain ⟨b, off, cur, e, h1, h2⟩ := h
  refine ⟨b, off, cur, e, h1, (hg.block b (Array.getElem?_eq_some_iff.1 h2).1 fun e' => ?_).trans h2⟩
  rcases ho.2 with ⟨rfl, _⟩ | ⟨g, cap, cur', rfl, _, hh, _⟩
  · simp [Value.ownBlock] at e'
  · simp [Value.ownBlock] at e'
    subst e'
    rw [hh] at h2
    simp at h2
theorem FzA.grown {w w' : World} {lo p : Nat} {A : Option Addr} (h : FzA w lo A) (hg : w.grownBy w' (some p)) (hp : p < lo) : FzA w' lo A := by
  obtain ⟨b, off, cur, e, h1, h2⟩ := h
  exact ⟨b, off, cur, e, h1, (hg.block b (Array.getElem?_eq_some_iff.1 h2).1 (by simp; omega)).trans h2⟩
theorem FzA.own {w : World} {lo n c : Nat} {A : Option Addr} {xs : List Value} (ho : w.ownsRow lo 5 1 (.slice A n c) n xs) (hn : 0 < n) : FzA w lo A := by
  rcases ho.2 with ⟨_, h2⟩ | ⟨g, cap, cur, hv, hb, hh, _⟩
  · omega
  · simp only [Value.slice.injEq] at hv
    exact ⟨g, 0, cur, hv.1, hb, hh⟩
/-- The list that is put: on its way. Its bytes' blocks may be written. -/
structure OrdI (w1 wr : World) (lo : Nat) (v : Value) (k : Nat) (ps : List (List Nat)) (qs : List It) : Prop where
  row : RowQ wr lo v k qs
  dat' : qs.map dat = putsD ps k
  few : ∀ q ∈ qs, 0 < q.n ∧ q.n ≤ 31
  fz : ∀ q ∈ qs, FzA wr lo q.A
  bel : Below w1.heap.size w1 wr
/-- An item of it, whatever has become of it: it can be written. -/
def MutAt (wr : World) (lo hi b8 o8 t : Nat) : Prop := ∃ (bt ot nt ct : Nat) (x : Int) (u : Value), wr.cell? ⟨b8, o8 + t * 2 + 1, none⟩ = some (.slice (some ⟨bt, ot, none⟩) nt ct) ∧ 0 < nt ∧ nt ≤ ct ∧
  wr.cell? ⟨bt, ot, none⟩ = some (.int .u8 x) ∧ wr.frozen? ⟨bt, ot, none⟩ = false ∧ lo ≤ bt ∧ bt < hi ∧ bt ≠ b8 ∧ wr.cell? ⟨b8, o8 + t * 2, none⟩ = some u ∧ wr.frozen? ⟨b8, o8 + t * 2, none⟩ = false
theorem MutAt.byte {wr : World} {lo hi b8 o8 t bt ot : Nat} {x y : Int} (h : MutAt wr lo hi b8 o8 t) (hc : wr.cell? ⟨bt, ot, none⟩ = some (.int .u8 x)) (hb : bt ≠ b8) : MutAt (wr.setCell ⟨bt, ot, none⟩ (.int .u8 y)) lo hi b8 o8 t := by
  obtain ⟨b, o, n, c, x', u, h1, h2, h3, h4, h5, h6, h7, h8, h9, h10⟩ := h
  by_cases e : b = bt ∧ o = ot
  · obtain ⟨rfl, rfl⟩ := e
    exact ⟨b, o, n, c, y, u, (World.cell?_setCell_other _ _ _ _ (by simp <;> omega)).trans h1, h2, h3, World.cell?_setCell_same _ _ _ hc, by rw [World.frozen?_setCell]; exact h5, h6, h7, h8, (World.cell?_setCell_other _ _ _ _ (by simp <;> omega)).trans h9, by rw [World.frozen?_setCell]; exact h10⟩
  · exact ⟨b, o, n, c, x', u, (World.cell?_setCell_other _ _ _ _ (by simp <;> omega)).trans h1, h2, h3, (World.cell?_setCell_other _ _ _ _ (by simp <;> omega)).trans h4, by rw [World.frozen?_setCell]; exact h5, h6, h7, h8, (World.cell?_setCell_other _ _ _ _ (by simp <;> omega)).trans h9, by rw [World.frozen?_setCell]; exact h10⟩
theorem MutAt.note {wr : World} {lo hi b8 o8 t j : Nat} {v v0 : Value} (h : MutAt wr lo hi b8 o8 t) (hc : wr.cell? ⟨b8, o8 + j * 2, none⟩ = some v0) : MutAt (wr.setCell ⟨b8, o8 + j * 2, none⟩ v) lo hi b8 o8 t := by
  obtain ⟨b, o, n, c, x', u, h1, h2, h3, h4, h5, h6, h7, h8, h9, h10⟩ := h
  by_cases e : t = j
  · subst e
    exact ⟨b, o, n, c, x', v, (World.cell?_setCell_other _ _ _ _ (by simp <;> omega)).trans h1, h2, h3, (World.cell?_setCell_other _ _ _ _ (by simp <;> omega)).trans h4, by rw [World.frozen?_setCell]; exact h5, h6, h7, h8, World.cell?_setCell_same _ _ _ hc, by rw [World.frozen?_setCell]; exact h10⟩
  · exact ⟨b, o, n, c, x', u, (World.cell?_setCell_other _ _ _ _ (by simp <;> omega)).trans h1, h2, h3, (World.cell?_setCell_other _ _ _ _ (by simp <;> omega)).trans h4, by rw [World.frozen?_setCell]; exact h5, h6, h7, h8, (World.cell?_setCell_other _ _ _ _ (by simp <;> omega)).trans h9, by rw [World.frozen?_setCell]; exact h10⟩
/-- The list that is wanted, on its way. -/
structure WantI (w4 wr : World) (lo : Nat) (v : Value) (k : Nat) (qw : List It) (ds : List (Int × List Nat)) : Prop where
  row : RowQ wr lo v k qw
  dat' : qw.map dat = ds
  few : ∀ q ∈ qw, q.n ≤ 31
  bel : Below w4.heap.size w4 wr
theorem mut_start {w4 wr : World} {lo hi b8 o8 N c8 : Nat} {qs : List It} (h : RowQ w4 lo (.slice (some ⟨b8, o8, none⟩) N c8) N qs) (hf : ∀ q ∈ qs, 0 < q.n ∧ q.n ≤ 31) (hz : ∀ q ∈ qs, FzA w4 lo q.A) (hh : ∀ q ∈ qs, ∃ b off, q.A = some ⟨b, off, none⟩ ∧ b < hi) (hb : Below w4.heap.size w4 wr) : ∀ t, t < N → MutAt wr lo hi b8 o8 t := by
  intro t ht
  obtain ⟨q, hq⟩ : ∃ q, qs[t]? = some q := ⟨_, List.getElem?_eq_getElem (by rw [h.1]; exact ht)⟩
  have hm := List.mem_of_getElem? hq
  obtain ⟨b, off, e, hlo, hbl, hcs⟩ := (At.of_own h.2.1).2 (by omega)
  cases e
  have c0 := hcs (t * 2) _ (its_get qs t q hq 0 (by omega))
  have c1 := hcs (t * 2 + 1) _ (its_get qs t q hq 1 (by omega))
  obtain ⟨bt, ot, cur, eA, hlt, hheap⟩ := hz q hm
  obtain ⟨b', o', eA', hhi⟩ := hh q hm
  rw [eA] at eA'
  cases eA'
  obtain ⟨b2, o2, e2, _, hb2l, hcb⟩ := (h.2.2 q hm).ok.at'.2 (hf q hm).1
  rw [eA] at e2
  cases e2
  have hlen := (h.2.2 q hm).ok.len
  have hby := hcb 0 _ (bv_get q.bs 0 (by have := (hf q hm).1; omega))
  obtain ⟨_, h2⟩ := h.2.1
  rcases h2 with ⟨h2, _⟩ | ⟨g, cap, cur8, ev, _, hg8, _⟩
  · cases h2
  · cases ev
    have hne : bt ≠ b8 := fun e => by subst e; rw [hheap] at hg8; simp at hg8
    have hfr : ∀ j, wr.frozen? ⟨b8, j, none⟩ = false := fun j => by
      have h1 := hb.block b8 hbl
      simp only [World.frozen?, h1, hg8]; simp
    have hfb : wr.frozen? ⟨bt, ot, none⟩ = false := by
      have h1 := hb.block bt hb2l
      simp only [World.frozen?, h1, hheap]; simp
    refine ⟨bt, ot, q.n, q.c, ((q.bs.getD 0 0 : Nat) : Int), .int .i64 q.k, ?_, (hf q hm).1, (h.2.2 q hm).ok.cap, ?_, hfb, hlt, hhi, hne, ?_, hfr _⟩
    · have := (hb.cell (p := ⟨b8, 0 + (t * 2 + 1), none⟩) hbl).trans c1
      rw [eA] at this
      simpa [Nat.add_assoc] using this
    · exact (hb.cell (p := ⟨bt, ot, none⟩) hb2l).trans hby
    · exact (hb.cell (p := ⟨b8, 0 + (t * 2 + 0), none⟩) hbl).trans c0
/-- While the list is written. -/
structure MutI (w wr : World) (p hi h6 : Nat) (ds : List (Int × List Nat)) (A8 : Option Addr) (N : Nat) (v : Value) (k : Nat) (qw : List It) : Prop where
  lq : LQ w wr p hi ds
  row : RowQ wr h6 v k qw
  mt : ∀ b8 o8, A8 = some ⟨b8, o8, none⟩ → ∀ t, t < N → MutAt wr (p + 1) hi b8 o8 t
theorem MutI.step {w wr : World} {p hi h6 N k j bt ot b8 o8 : Nat} {ds : List (Int × List Nat)} {v v0 : Value} {qw : List It} {x y : Int} (h : MutI w wr p hi h6 ds (some ⟨b8, o8, none⟩) N v k qw) (h6' : hi ≤ h6) (hb8 : p + 1 ≤ b8) (hb8' : b8 < hi) (hbt : p + 1 ≤ bt) (hbt' : bt < hi) (hne : bt ≠ b8) (hc : wr.cell? ⟨bt, ot, none⟩ = some (.int .u8 x)) (hc2 : wr.cell? ⟨b8, o8 + j * 2, none⟩ = some v0) :
    MutI w ((wr.setCell ⟨bt, ot, none⟩ (.int .u8 y)).setCell ⟨b8, o8 + j * 2, none⟩ (.int .i64 (-1))) p hi h6 ds (some ⟨b8, o8, none⟩) N v k qw := by
  have hs : wr.heap.size ≤ ((wr.setCell ⟨bt, ot, none⟩ (.int .u8 y)).setCell ⟨b8, o8 + j * 2, none⟩ (.int .i64 (-1))).heap.size := by simp [World.setCell]
  have hk : ∀ b, b ≠ bt → b ≠ b8 → ((wr.setCell ⟨bt, ot, none⟩ (.int .u8 y)).setCell ⟨b8, o8 + j * 2, none⟩ (.int .i64 (-1))).heap[b]? = wr.heap[b]? := fun b h1 h2 => (Below.heap_setCell _ _ _ _ h2).trans (Below.heap_setCell _ _ _ _ h1)
  have hp0 := h.lq.ge
  refine ⟨h.lq.keep hs (hk p (by omega) (by omega)) (fun b h1 _ => hk b (by omega) (by omega)) ?_, h.row.keep hs (fun b h1 _ => hk b (by omega) (by omega)), fun b o e t ht => ?_⟩
  · exact ((Below.refl _ _).setCell (p := ⟨bt, ot, none⟩) (by simp only; omega) _).setCell (p := ⟨b8, o8 + j * 2, none⟩) (by simp only; omega) _
  · cases e
    exact ((h.mt b8 o8 rfl t ht).byte hc hne).note ((World.cell?_setCell_other _ _ _ _ (by simp <;> omega)).trans hc2)
/-- While it is dropped, and told. -/
structure DropI (w wr : World) (p hi h6 : Nat) (es : List (Int × List Nat)) (v : Value) (k : Nat) (qw : List It) : Prop where
  lq : LQ w wr p hi es
  row : RowQ wr h6 v k qw
end Go.Proofs.Ytlaopkkfgkcejaa.Qu
