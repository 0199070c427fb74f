/- What was told, as a map; packets that are told, out, or here, together all. Conditions: as each theorem lists them. -/
import Derived.Test.YtgejakbenldebaaLn
import Derived.Maps.OwnSet
import Derived.Maps.OwnOps
set_option linter.unusedSimpArgs false
set_option linter.unusedVariables false
namespace Go.Proofs.Ytgejakbenldebaa.Ld
open Go Go.RowKit Go.Proofs.Ytgejakbenldebaa Go.Proofs.Ytgejakbenldebaa.Sp Go.Maps

theorem lawI : Keyed Try.prog 3 := int_keyed Try.underlying3
theorem zeroI (w : World) : (zeroValue 3).run Try.prog w = .ok (.int .i64 0) w := by kernel_rfl
theorem wfN {i : Nat} (h : i ≤ 1099511627776) : (Lit.int .i64 (i : Int)).wf = true := by
  have h1 : IntKind.i64.min = -9223372036854775808 := by rfl
  have h2 : IntKind.i64.max = 9223372036854775807 := by rfl
  simp only [Lit.wf, h1, h2]
  simp
  omega

/-- The map tells of each of these numbers 1, of no other one. -/
def ToldIn (w : World) (b : Nat) (tn : List Nat) : Prop :=
  ∃ D : DataW Unit, w.ownsMap Try.prog 3 (plainElem Try.prog 3) b tn.length D ∧ Maps.size D = tn.length ∧ (∀ i : Nat, D.atKey (.int .i64 (i : Int)) (.lit (.int .i64 0)) = .lit (.int .i64 (if i ∈ tn then 1 else 0))) ∧ ∀ i : Nat, Maps.has D (.int .i64 (i : Int)) = decide (i ∈ tn)
theorem ToldIn.same {w w' : World} {b : Nat} {tn : List Nat} (h : ToldIn w b tn) (he : w'.heap[b]? = w.heap[b]?) : ToldIn w' b tn := by
  obtain ⟨D, ⟨es, clock, hb, r⟩, h2⟩ := h
  exact ⟨D, ⟨es, clock, he.trans hb, r⟩, h2⟩
theorem ToldIn.lt {w : World} {b : Nat} {tn : List Nat} (h : ToldIn w b tn) : b < w.heap.size := by
  obtain ⟨D, h1, _⟩ := h
  exact h1.lt
theorem ToldIn.isMap {w : World} {b : Nat} {tn : List Nat} (h : ToldIn w b tn) : ∃ es clock, w.heap[b]? = some (.map es clock) := by
  obtain ⟨D, ⟨es, clock, hb, _⟩, _⟩ := h
  exact ⟨es, clock, hb⟩
theorem ToldIn.keep {w w' : World} {b : Nat} {tn : List Nat} (h : ToldIn w b tn) (hb : Below w.heap.size w w') : ToldIn w' b tn := h.same (hb.block b h.lt)
theorem ToldIn.moved {w w' : World} {b lo p : Nat} {tn : List Nat} (h : ToldIn w b tn) (hm : Moved lo p w w') (hp : b ≠ p) : ToldIn w' b tn :=
  h.same (hm.kept b h.lt hp fun row e => by
    obtain ⟨es, clock, hb⟩ := h.isMap
    rw [hb] at e
    simp at e)
theorem ToldIn.new (w : World) : ToldIn (w.alloc (.map #[] 0)) w.heap.size [] :=
  ⟨.map [], World.ownsMap_made _ _ _ _, rfl, fun i => rfl, fun i => rfl⟩
theorem ToldIn.look {w : World} {b : Nat} {tn : List Nat} (h : ToldIn w b tn) (i : Nat) (hi : i ≤ 1099511627776) : (Instr.lookup 26 (.map (some b)) (.int .i64 (i : Int)) false).run Try.prog w = .ok (.int .i64 (if i ∈ tn then 1 else 0)) w := by
  obtain ⟨D, h1, h2, h3, h4⟩ := h
  obtain ⟨c, hrun, hat, _⟩ := h1.lookup_int lawI Try.underlying26 Try.underlying3 (zeroI _) (keyOf_int_mk Try.underlying3 (wfN hi))
  rw [h3] at hat
  simp only [DataW.lit.injEq, Lit.int.injEq, true_and] at hat
  rw [hrun, hat]
theorem ToldIn.put {w : World} {b : Nat} {tn : List Nat} (h : ToldIn w b tn) (i : Nat) (hi : i ≤ 1099511627776) (hn : i ∉ tn) (hl : tn.length ≤ 1099511627776) : ∃ w', (Instr.mapUpdate 26 (.map (some b)) (.int .i64 (i : Int)) (.int .i64 1)).run Try.prog w = .ok () w' ∧ ToldIn w' b (tn ++ [i]) ∧ w.grownBy w' (some b) := by
  obtain ⟨D, h1, h2, h3, h4⟩ := h
  obtain ⟨w', hrun, ho, hg⟩ := h1.update lawI Try.underlying26 (by unfold maxLen; omega) (keyOf_int_mk Try.underlying3 (wfN hi)) (plainElem_int (H := Unit) Try.underlying3 (a := 1) (by decide))
  refine ⟨w', hrun, ⟨_, by rw [List.length_append]; exact ho, ?_, fun j => ?_, fun j => ?_⟩, hg⟩
  · rw [size_put (h1.tidy lawI), h4, decide_eq_false hn, List.length_append, h2]; rfl
  · by_cases hj : j = i
    · subst hj
      rw [atKey_put_same (k := Lit.int .i64 (j : Int)) h1.isMap trivial]
      simp
    · rw [atKey_put_other (by simp; omega), h3]
      have : (j ∈ tn ++ [i]) ↔ j ∈ tn := by simp [hj]
      simp only [this]
  · by_cases hj : j = i
    · subst hj
      rw [has_put_same (k := Lit.int .i64 (j : Int)) h1.isMap trivial]
      simp
    · rw [has_put_other (by simp; omega), h4]
      have : (j ∈ tn ++ [i]) ↔ j ∈ tn := by simp [hj]
      simp only [this]
theorem ToldIn.len {w : World} {b : Nat} {tn : List Nat} (h : ToldIn w b tn) (ty : TypeId) : (Builtin.len_ #[26] ty #[.map (some b)]).run Try.prog w = .ok (.int .i64 (tn.length : Int)) w := by
  obtain ⟨D, h1, h2, _⟩ := h
  rw [h1.len Try.underlying26 ty, h2]

/-- Told, here, or out: together each number below the next one, once. -/
def Part (tn : List Nat) (xs ks : List Pk) (next : Nat) : Prop := (tn ++ (xs.map (·.num) ++ ks.map (·.num))).Perm (List.range next)
theorem Part.new : Part [] [] [] 0 := List.Perm.refl _
theorem Part.put {tn : List Nat} {ks : List Pk} {next : Nat} (h : Part tn [] ks next) (m : Nat) (a : Int) : Part tn [] (ks ++ sentL next m a) (next + m) := by
  unfold Part at h ⊢
  have e : (sentL next m a).map (·.num) = (List.range m).map (next + ·) := by simp [sentL]
  rw [List.range_add, List.map_append, e]
  simp only [List.map_nil, List.nil_append] at h ⊢
  rw [← List.append_assoc]
  exact h.append (List.Perm.refl _)
theorem filter_perm (s : Pk → Bool) : ∀ l : List Pk, (l.filter s ++ l.filter fun k => !s k).Perm l
  | [] => List.Perm.refl _
  | k :: r => by
    have ih := filter_perm s r
    cases hk : s k with
    | true => simp only [List.filter_cons, hk, Bool.not_true]; simpa using ih.cons k
    | false =>
      simp only [List.filter_cons, hk, Bool.not_false]
      simp
      exact (List.perm_middle).trans (ih.cons k)
theorem Part.go {tn : List Nat} {ks : List Pk} {next : Nat} (h : Part tn [] ks next) (s : Pk → Bool) : Part tn (ks.filter s) (ks.filter fun k => !s k) next := by
  unfold Part at h ⊢
  simp only [List.map_nil, List.nil_append] at h
  rw [← List.map_append]
  exact (((filter_perm s ks).map (·.num)).append_left tn).trans h
theorem Part.step {tn : List Nat} {x : Pk} {xs ks : List Pk} {next : Nat} (h : Part tn (x :: xs) ks next) : Part (tn ++ [x.num]) xs ks next := by
  unfold Part at h ⊢
  simpa using h
theorem Part.fresh {tn : List Nat} {x : Pk} {xs ks : List Pk} {next : Nat} (h : Part tn (x :: xs) ks next) : x.num ∉ tn ∧ x.num < next ∧ tn.length < next := by
  unfold Part at h
  have hn : (tn ++ ((x :: xs).map (·.num) ++ ks.map (·.num))).Nodup := h.nodup_iff.2 List.nodup_range
  refine ⟨fun hx => ?_, ?_, ?_⟩
  · rw [List.nodup_append] at hn
    exact hn.2.2 _ hx _ (by simp) rfl
  · have := h.mem_iff.1 (show x.num ∈ _ by simp)
    simpa using this
  · have := h.length_eq
    simp only [List.length_append, List.length_map, List.length_cons, List.length_range] at this
    omega
theorem Part.all {tn : List Nat} {next : Nat} (h : Part tn [] [] next) : tn.length = next ∧ ∀ i, i < next → i ∈ tn := by
  unfold Part at h
  simp only [List.map_nil, List.append_nil] at h
  exact ⟨by simpa using h.length_eq, fun i hi => h.mem_iff.2 (by simpa using hi)⟩
end Go.Proofs.Ytgejakbenldebaa.Ld
