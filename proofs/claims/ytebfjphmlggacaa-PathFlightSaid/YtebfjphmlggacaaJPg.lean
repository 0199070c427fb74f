/- What holds in PathFlight's loop. Conditions: as each theorem lists them. -/
import Derived.Test.YtebfjphmlggacaaJPf
import Derived.Test.YtebfjphmlggacaaJPm
import Derived.Test.YtebfjphmlggacaaJOc
import Derived.Test.YtebfjphmlggacaaJPaKn
import Derived.Test.YtebfjphmlggacaaJH1
set_option linter.unusedSimpArgs false
set_option linter.unusedVariables false

namespace Go.Proofs.Ytebfjphmlggacaa.Pa
open Go Go.RowKit Go.Proofs.Ytebfjphmlggacaa Go.Proofs.Ytebfjphmlggacaa.Sp Go.Proofs.Ytebfjphmlggacaa.Ld

/-- The numbers of those that elicit. -/
def tnOf (kq : List (Pk × List Fq)) : List Nat := ((kq.map (·.1)).filter (·.el)).map (·.num)
theorem tnOf_app (a b : List (Pk × List Fq)) : tnOf (a ++ b) = tnOf a ++ tnOf b := by simp [tnOf]
theorem tnOf_len (kq : List (Pk × List Fq)) : (tnOf kq).length = els (kq.map (·.1)) := by
  unfold tnOf els
  rw [List.length_map, List.countP_eq_length_filter]
theorem tnOf_nodup {kq : List (Pk × List Fq)} (h : (kq.map (·.1)).Pairwise (fun a b => a.num < b.num)) : (tnOf kq).Nodup := by
  unfold tnOf
  rw [List.nodup_iff_pairwise_ne, List.pairwise_map]
  exact (h.filter _).imp fun hab => by omega
theorem tnOf_sel (f : Pk → Bool) (kq : List (Pk × List Fq)) : tnOf (selK f kq) = ((((kq.map (·.1)).filter (·.el)).filter f).map (·.num)) := by
  unfold tnOf
  rw [selK_map, List.filter_filter, List.filter_filter]
  exact congrArg _ (List.filter_congr fun k _ => Bool.and_comm _ _)
/-- One of them is acknowledged. -/
theorem tnOf_one {kq : List (Pk × List Fq)} (h : (kq.map (·.1)).Pairwise (fun a b => a.num < b.num)) (a : Nat) : tnOf (selK (fun k => !inRs [((a : Int), (a : Int))] k) kq) = (tnOf kq).erase a := by
  rw [(tnOf_nodup h).erase_eq_filter, tnOf_sel]
  unfold tnOf
  generalize (kq.map (·.1)).filter (·.el) = l
  rw [List.filter_map]
  refine congrArg _ (List.filter_congr fun k _ => ?_)
  have e : inRs [((a : Int), (a : Int))] k = decide (k.num = a) := by
    simp only [inRs, ranB, List.any_cons, List.any_nil, Bool.or_false, inB]
    rw [Bool.eq_iff_iff]
    simp
    omega
  rw [e]
  simp only [Function.comp]
  by_cases hk : k.num = a <;> simp [hk]
/-- Those that go do not elicit. -/
theorem tnOf_none {kq : List (Pk × List Fq)} {f : Pk → Bool} (h : els ((selK f kq).map (·.1)) = 0) : tnOf (selK (fun k => !f k) kq) = tnOf kq := by
  rw [tnOf_sel]
  unfold tnOf
  congr 1
  rw [List.filter_eq_self]
  intro k hk
  obtain ⟨h1, h2⟩ := List.mem_filter.1 hk
  cases hf : f k with
  | false => rfl
  | true =>
    exfalso
    rw [selK_map] at h
    have := List.countP_eq_zero.1 h k (List.mem_filter.2 ⟨h1, hf⟩)
    exact this h2
theorem els_sel (f : Pk → Bool) (kq : List (Pk × List Fq)) : els ((selK f kq).map (·.1)) + els ((selK (fun k => !f k) kq).map (·.1)) = els (kq.map (·.1)) := by
  rw [selK_map, selK_map]
  exact els_split f _
theorem allF_one {kq : List (Pk × List Fq)} (h : ∀ x ∈ kq, x.2.length = 1) : (allF kq).length = kq.length := by
  induction kq with
  | nil => rfl
  | cons x r ih =>
    have e : (allF (x :: r)).length = x.2.length + (allF r).length := by simp [allF]
    rw [e, h x (by simp), ih fun y hy => h y (by simp [hy])]
    simp; omega
theorem badL_le {wd : Cg.Win} (h : Cg.OkW wd) (l : List (Pk × List Fq)) (next : Nat) : (badL wd l next).size ≤ wd.size := by
  unfold badL
  split
  · unfold Cg.badS
    split
    · exact Int.le_refl _
    · show max (wd.size.tdiv 2) 2 ≤ wd.size
      have := h.s2
      rw [Int.tdiv_eq_ediv_of_nonneg (by omega)]
      omega
  · exact Int.le_refl _
theorem badL_none {wd : Cg.Win} {l : List (Pk × List Fq)} (h : els (l.map (·.1)) = 0) (next : Nat) : badL wd l next = wd := by
  unfold badL
  rw [if_neg (by omega)]

/-- Behind j rounds. -/
structure FlI (w wr : World) (p b j : Nat) (s : Rtt.RS) (kq : List (Pk × List Fq)) (next behind : Nat) (wd : Cg.Win) : Prop where
  path : PathIn wr w.heap.size p s kq next behind wd
  told : ToldB wr b j (tnOf kq)
  ne : b ≠ p
  new : w.heap.size ≤ b
  below : Below w.heap.size w wr
  nx : next ≤ j
  bk : 0 ≤ s.bk ∧ s.bk ≤ j
  ats : ∀ x ∈ kq, 0 ≤ x.1.at' ∧ x.1.at' ≤ j
  one : ∀ x ∈ kq, x.2.length = 1
section
variable {w wr w' : World} {p b j : Nat} {s : Rtt.RS} {kq : List (Pk × List Fq)} {next behind : Nat} {wd : Cg.Win}
theorem FlI.keep (h : FlI w wr p b j s kq next behind wd) (hb : Below wr.heap.size wr w') : FlI w w' p b j s kq next behind wd :=
  ⟨h.path.keep hb, h.told.keep hb, h.ne, h.new, h.below.trans (hb.mono h.below.size), h.nx, h.bk, h.ats, h.one⟩
theorem ToldB.more {w : World} {b m m' : Nat} {tn : List Nat} (h : ToldB w b m tn) (hm : m ≤ m') : ToldB w b m' tn := by
  obtain ⟨D, ⟨es, clock, hb, hF, hs, r⟩, h2⟩ := h
  exact ⟨D, ⟨es, clock, hb, hF, Nat.le_trans hs hm, r⟩, h2⟩
theorem FlI.more (h : FlI w wr p b j s kq next behind wd) : FlI w wr p b (j + 1) s kq next behind wd :=
  ⟨h.path, h.told.more (by omega), h.ne, h.new, h.below, Nat.le_succ_of_le h.nx, ⟨h.bk.1, by have := h.bk.2; omega⟩, fun x hx => ⟨(h.ats x hx).1, by have := (h.ats x hx).2; omega⟩, h.one⟩
theorem FlI.tot (h : FlI w wr p b j s kq next behind wd) : (allF kq).length ≤ j := by
  rw [allF_one h.one]
  exact Nat.le_trans h.path.rising.2.2.1 h.nx
end
/-- Maps apart, all is kept where a map is written. -/
theorem own_map {w w' : World} {base e size n b : Nat} {v : Value} {xs : List Value} (h : w.ownsRow base e size v n xs) (hg : w.grownBy w' (some b)) (hm : ∃ es clock, w.heap[b]? = some (.map es clock)) : w'.ownsRow base e size v n xs :=
  h.kept hg (by
    rcases h.2 with ⟨rfl, _⟩ | ⟨g', cap, cu, rfl, _, hh, _⟩
    · exact .inl rfl
    · refine .inr fun e' => ?_
      simp only [Value.ownBlock, Option.some.injEq] at e'
      subst e'
      obtain ⟨es, clock, hm⟩ := hm
      rw [hm] at hh
      simp at hh)
theorem PathIn.mapped {w w' : World} {lo p b : Nat} {s : Rtt.RS} {kq : List (Pk × List Fq)} {next behind : Nat} {wd : Cg.Win} (h : PathIn w lo p s kq next behind wd) (hg : w.grownBy w' (some b)) (hm : ∃ es clock, w.heap[b]? = some (.map es clock)) : PathIn w' lo p s kq next behind wd := by
  obtain ⟨cur, h1, h2, h3⟩ := h.cur
  have hcells : ∀ (i : Nat) (cs : Array Value) (t : TypeId) (fr : Nat × Nat), w.heap[i]? = some (.cells cs t fr) → w'.heap[i]? = w.heap[i]? := fun i cs t fr hi => hg.block i (lt_of_block hi) fun e => by
    simp only [Option.some.injEq] at e
    subst e
    obtain ⟨es, clock, hm⟩ := hm
    rw [hm] at hi
    simp at hi
  have e := hcells p _ _ _ h1.1
  refine ⟨⟨cur, ⟨e.trans h1.1, h1.2⟩, ?_, ⟨e.trans h3.hp, h3.c0, h3.c1, h3.c2, h3.c3⟩⟩, h.good, h.ok, fun x hx => ⟨(h.rows x hx).len, (h.rows x hx).le, (h.rows x hx).at64, own_map (h.rows x hx).own hg hm, fun q hq => ⟨own_map ((h.rows x hx).each q hq).1 hg hm, own_map ((h.rows x hx).each q hq).2 hg hm⟩⟩⟩
  obtain ⟨os, a1, a2⟩ := h2.led
  obtain ⟨A, c, e1, hr⟩ := a1.row
  exact ⟨os, ⟨a1.hlo, Nat.lt_of_lt_of_le a1.hhi hg.size, Nat.le_refl _, a1.hT, e.trans a1.hp, ⟨A, c, e1, hr.mono hg.size fun i hi ⟨cs, t, ht, hcs⟩ => hcells i cs t _ hcs⟩, a1.c1, a1.c2, a1.c3, a1.len, a1.nums, a1.beh⟩, a2⟩
theorem map_grown_below {w0 w w' : World} {b : Nat} (h : Below w0.heap.size w0 w) (hg : w.grownBy w' (some b)) (hb : w0.heap.size ≤ b) : Below w0.heap.size w0 w' := h.grown hg h.size (fun k hk => by cases hk; exact hb)
section
variable {w wr w5 w' : World} {p b j : Nat} {s : Rtt.RS} {kq : List (Pk × List Fq)} {next behind : Nat} {wd : Cg.Win}
/-- Behind a Send. -/
theorem FlI.sent (h : FlI w w5 p b j s kq next behind wd) {q : Fq} (hs : SendP w5 w.heap.size p s kq next behind wd ((j : Int) + 1) [q] w') : ∃ kq', PathIn w' w.heap.size p s kq' (next + 1) behind wd ∧ tnOf kq' = tnOf kq ++ (if elicF [q] = true then [next] else []) ∧ (∀ x ∈ kq', 0 ≤ x.1.at' ∧ x.1.at' ≤ ((j + 1 : Nat) : Int)) ∧ (∀ x ∈ kq', x.2.length = 1) ∧ ToldB w' b j (tnOf kq) ∧ Below w.heap.size w w' := by
  obtain ⟨k', qs', e1, e2, e3, e4, _, hp, hm⟩ := hs
  refine ⟨_, hp, ?_, fun x hx => ?_, fun x hx => ?_, h.told.moved hm h.ne, h.below.trans hm.below⟩
  · rw [tnOf_app]
    congr 1
    unfold tnOf
    rw [← e3]
    cases hk : k'.el <;> simp [hk, e1]
  · rcases List.mem_append.1 hx with hx | hx
    · exact ⟨(h.ats x hx).1, by have := (h.ats x hx).2; omega⟩
    · obtain rfl : x = (k', qs') := by simpa using hx
      show 0 ≤ k'.at' ∧ k'.at' ≤ _
      rw [e2]
      omega
  · rcases List.mem_append.1 hx with hx | hx
    · exact h.one x hx
    · obtain rfl : x = (k', qs') := by simpa using hx
      exact e4
theorem FlI.sent0 (h : FlI w w5 p b j s kq next behind wd) {q : Fq} (hs : SendP w5 w.heap.size p s kq next behind wd ((j : Int) + 1) [q] w') (hq : elicF [q] = false) : ∃ kq', FlI w w' p b (j + 1) s kq' (next + 1) behind wd := by
  obtain ⟨kq', h1, h2, h3, h4, h5, h6⟩ := h.sent hs
  rw [hq] at h2
  simp only [Bool.false_eq_true, if_false, List.append_nil] at h2
  exact ⟨kq', h1, by rw [h2]; exact h5.more (by omega), h.ne, h.new, h6, by have := h.nx; omega, ⟨h.bk.1, by have := h.bk.2; omega⟩, h3, h4⟩
theorem FlI.sent1 (h : FlI w w5 p b j s kq next behind wd) {q : Fq} (hs : SendP w5 w.heap.size p s kq next behind wd ((j : Int) + 1) [q] w') (hq : elicF [q] = true) (hj : j ≤ 1759218604441) : ∃ w'', (Instr.mapUpdate 54 (.map (some b)) (.int .i64 (next : Int)) (.bool true)).run Try.prog w' = .ok () w'' ∧ ∃ kq', FlI w w'' p b (j + 1) s kq' (next + 1) behind wd := by
  obtain ⟨kq', h1, h2, h3, h4, h5, h6⟩ := h.sent hs
  rw [hq] at h2
  simp only [if_true] at h2
  have hnx := h.nx
  have hni : next ∉ tnOf kq := fun hi => by
    unfold tnOf at hi
    obtain ⟨k, hk, e⟩ := List.mem_map.1 hi
    obtain ⟨x, hx, rfl⟩ := List.mem_map.1 (List.mem_filter.1 hk).1
    have := h.path.rising.2.1 x hx
    omega
  obtain ⟨w'', hr, ht, hg⟩ := h5.put next (by omega) hni (by omega)
  exact ⟨w'', hr, kq', h1.mapped hg h5.isMap, by rw [h2]; exact ht, h.ne, h.new, map_grown_below h6 hg h.new, by omega, ⟨h.bk.1, by have := h.bk.2; omega⟩, h3, h4⟩
end
end Go.Proofs.Ytebfjphmlggacaa.Pa
