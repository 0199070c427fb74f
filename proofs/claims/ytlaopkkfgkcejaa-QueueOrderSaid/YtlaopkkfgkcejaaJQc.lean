/- A law's calls as an argument, opened, with their bulk. Conditions: as each theorem lists them. -/
import Derived.Test.YtlaopkkfgkcejaaJOp
import Derived.Test.YtlaopkkfgkcejaaRows
set_option linter.unusedSimpArgs false
set_option linter.unusedVariables false

namespace Go.Proofs.Ytlaopkkfgkcejaa.Qc
open Go Go.RowKit Go.ChangeShapes Go.WideShapes Go.ChangeAt Go.WideMaps Go.WideElems Go.Proofs.Ytlaopkkfgkcejaa

/-- A call, raw. -/
structure Rc where
  f0 : Int
  A1 : Option Addr
  f1 : List Int
  c1 : Nat
  A2 : Option Addr
  f2 : List Nat
  c2 : Nat
def rcC (r : Rc) : List Value := [.int .i64 r.f0, .slice r.A1 r.f1.length r.c1, .slice r.A2 r.f2.length r.c2]
structure RcOk (W : World) (r : Rc) : Prop where
  b0 : -9223372036854775808 ≤ r.f0 ∧ r.f0 ≤ 9223372036854775807
  r1 : Rd W W.heap.size r.A1 r.f1.length (r.f1.map (Value.int .i64))
  l1 : r.f1.length ≤ r.c1
  u1 : r.f1.length ≤ 17592186044416
  z1 : ∀ x ∈ r.f1, -9223372036854775808 ≤ x ∧ x ≤ 9223372036854775807
  r2 : Rd W W.heap.size r.A2 r.f2.length (bv r.f2)
  l2 : r.f2.length ≤ r.c2
  u2 : r.f2.length ≤ 140737488355328
  z2 : ∀ x ∈ r.f2, x < 256
/-- A slice of calls. -/
structure CallsIn (W : World) (A : Option Addr) (cap n : Nat) (rs : List Rc) : Prop where
  len : rs.length = n
  le : n ≤ cap
  rd : 0 < n → ∃ b off, A = some ⟨b, off, none⟩ ∧ b < W.heap.size ∧ ∀ (k : Nat) (r : Rc), rs[k]? = some r → RcOk W r ∧ ∀ (j : Nat) (u : Value), (rcC r)[j]? = some u → W.cell? ⟨b, off + k * 3 + j, none⟩ = some u
theorem one_le {H : Type} (d : DataW H) : 1 ≤ Rows.uptoBulk d := by
  cases d with
  | lit l => cases l <;> simp [Rows.uptoBulk]
  | nil => simp [Rows.uptoBulk]
  | ptr d => simp [Rows.uptoBulk]
  | slice elems spare => simp [Rows.uptoBulk]
  | agg parts => simp [Rows.uptoBulk]
  | iface t d => simp [Rows.uptoBulk]
  | map entries => simp [Rows.uptoBulk]
  | held h => simp [Rows.uptoBulk]
theorem length_le {H : Type} (l : List (DataW H)) : l.length ≤ Rows.uptoBulkAll l := by
  induction l with
  | nil => simp [Rows.uptoBulkAll]
  | cons x r ih => have := one_le x; simp only [Rows.uptoBulkAll, List.length_cons]; omega
theorem mem_weightsAll {H : Type} {P : Program} {e : TypeId} {n : Nat} {x : DataW H} : ∀ {l : List (DataW H)}, x ∈ l → n ∈ x.weights P e → n ∈ DataW.weightsAll P e l
  | y :: l, h, hn => by
    simp only [DataW.weightsAll, List.mem_append]
    rcases List.mem_cons.1 h with rfl | h
    · exact .inl hn
    · exact .inr (mem_weightsAll h hn)

/-- A slice of numbers, within a datum. -/
theorem row_of_trod {H : Type} {enc : TypeId × Value → H} {P : Program} {W : World} {fuel : Nat} {v : Value} {x : DataW H × List MemPlace} {t e : TypeId} {k : IntKind} (bz : Nat) (ht : P.underlying t = some (.slice e)) (he : P.underlying e = some (.int k)) (hc : P.cellsOf e = 1) (hb : P.bytesOf e = bz)
    (h : DataW.trod enc P W 0 (fun _ => true) true fuel t [v] = some x) (hw : ∀ n ∈ x.1.weights P t, n ≤ reachBytes) :
    ∃ (zs : List Int) (A : Option Addr) (c : Nat), v = .slice A zs.length c ∧ Rd W W.heap.size A zs.length (zs.map (Value.int k)) ∧ zs.length ≤ c ∧ zs.length * bz ≤ reachBytes ∧ ∀ n ∈ zs, (Lit.int k n).wf = true := by
  rcases open_ints ht he hc h with ⟨hcs, hd⟩ | ⟨a, len0, cap0, zs, hcs, _, hl, hm, hz, hd, hcell, hwz⟩
  · simp only [List.cons.injEq, and_true] at hcs
    subst hcs
    exact ⟨[], none, 0, rfl, Rd.nil _ _ _, Nat.le_refl _, by simp, fun n hn => by cases hn⟩
  · simp only [List.cons.injEq, and_true] at hcs
    subst hcs
    simp only [if_true] at hz
    have hlen : (zs.take len0).length = len0 := by rw [List.length_take]; omega
    refine ⟨zs.take len0, some a, cap0, by rw [hlen], ⟨by simp, fun h0 => ?_⟩, by omega, ?_, fun n hn => hwz n (List.mem_of_mem_take hn)⟩
    · rw [hlen] at h0
      obtain ⟨b, off, spot⟩ := a
      have hc0 := hcell 0 (by omega)
      have hspot : spot = none := by simpa [Addr.add] using World.cell?_spot hc0
      subst hspot
      refine ⟨b, off, rfl, World.block_lt_of_cell? W _ hc0, fun j u hu => ?_⟩
      rw [List.getElem?_map, Option.map_eq_some_iff] at hu
      obtain ⟨z, hz', rfl⟩ := hu
      rw [List.getElem?_take] at hz'
      split at hz'
      · have hj := (List.getElem?_eq_some_iff.1 hz').1
        have := hcell j hj
        rw [Addr.add_lit] at this
        rw [this]
        simp [List.getD, hz']
      · cases hz'
    · rw [hd] at hw
      have := hw (zs.length * bz) (by
        simp only [DataW.weights, ht, hb]
        refine List.mem_cons.2 (.inl ?_)
        congr 1
        simp [lits]
        omega)
      rw [hlen]
      exact Nat.le_trans (Nat.mul_le_mul_right _ (by omega)) this

theorem slice_of_trod {H : Type} {enc : TypeId × Value → H} {P : Program} {W : World} {fuel : Nat} {v : Value} {x : DataW H × List MemPlace} {t e : TypeId} (ht : P.underlying t = some (.slice e)) (h : DataW.trod enc P W 0 (fun _ => true) true fuel t [v] = some x) : ∃ A n c, v = .slice A n c := by
  rcases Deep.open_slice ht h with ⟨hcs, _⟩ | ⟨a, len, cap, m, n, D, Pl, hcs, _⟩
  · exact ⟨none, 0, 0, by simpa using hcs⟩
  · exact ⟨some a, len, cap, by simpa using hcs⟩
theorem the_n {α : Type} (l : List α) (h : l.length = 3) : ∃ a0 a1 a2, l = [a0, a1, a2] := by
  match l, h with
  | [a0, a1, a2], _ => exact ⟨a0, a1, a2, rfl⟩

theorem raw_of_trod {H : Type} {enc : TypeId × Value → H} {W : World} {fuel : Nat} {cs : List Value} {x : DataW H × List MemPlace} (h : DataW.trod enc Try.prog W 0 (fun _ => true) true fuel 41 cs = some x) (hw : ∀ n ∈ x.1.weights Try.prog 41, n ≤ reachBytes) :
    ∃ r : Rc, cs = rcC r ∧ RcOk W r := by
  obtain ⟨ys, n', _, hx, hcl, hyl, hf⟩ := DataW.trod_struct Try.underlying41 h
  rw [show Try.prog.cellsOf 41 = 3 by kernel_rfl] at hcl
  obtain ⟨v0, v1, v2, rfl⟩ := the_n cs hcl
  have hyl' : ys.length = 3 := hyl
  obtain ⟨y0, y1, y2, rfl⟩ := the_n ys hyl'
  have f0 : DataW.trod enc Try.prog W 0 (fun _ => true) true n' 3 [v0] = some y0 := hf 0 _ rfl
  have f1 : DataW.trod enc Try.prog W 0 (fun _ => true) true n' 32 [v1] = some y1 := hf 1 _ rfl
  have f2 : DataW.trod enc Try.prog W 0 (fun _ => true) true n' 22 [v2] = some y2 := hf 2 _ rfl
  rw [hx] at hw
  have hwe : ∀ n ∈ DataW.weightsEach Try.prog [3, 32, 22] [y0.1, y1.1, y2.1], n ≤ reachBytes := fun n hn => hw n (by
    simp only [DataW.weights, Try.underlying41]
    exact hn)
  obtain ⟨z0, e0, _, w0⟩ := DataW.trod_int Try.underlying3 f0
  obtain ⟨iz1, A1, c1, e1, r1, l1, b1, w1⟩ := row_of_trod 8 Try.underlying32 Try.underlying3 (by kernel_rfl) (by kernel_rfl) f1 (fun n hn => hwe n (DataW.weights_mem_each (j := 1) rfl rfl n hn))
  unfold reachBytes at b1
  obtain ⟨iz2, A2, c2, e2, r2, l2, b2, w2⟩ := row_of_trod 1 Try.underlying22 Try.underlying5 (by kernel_rfl) (by kernel_rfl) f2 (fun n hn => hwe n (DataW.weights_mem_each (j := 2) rfl rfl n hn))
  obtain ⟨bs2, rfl, hb2⟩ := bytes_of iz2 w2
  unfold reachBytes at b2
  simp only [List.length_map] at e2 r2 l2 b2
  have r2' : Rd W W.heap.size A2 bs2.length (bv bs2) := by simpa [bv, Function.comp_def] using r2
  simp only [List.cons.injEq, and_true] at e0
  subst e0 e1 e2
  exact ⟨⟨z0, A1, iz1, c1, A2, bs2, c2⟩, rfl, ⟨bounds_i64 w0, r1, l1, by show iz1.length ≤ _; omega, fun x hx => bounds_i64 (w1 x hx), r2', l2, by show bs2.length ≤ _; omega, hb2⟩⟩

theorem raws_of (n : Nat) (p : Nat → Rc → Prop) (h : ∀ j, j < n → ∃ z, p j z) : ∃ zs : List Rc, zs.length = n ∧ ∀ j r, zs[j]? = some r → p j r := by
  induction n with
  | zero => exact ⟨[], rfl, fun j r hj => by simp at hj⟩
  | succ n ih =>
    obtain ⟨zs, hl, hz⟩ := ih fun j hj => h j (by omega)
    obtain ⟨z, hzn⟩ := h n (by omega)
    refine ⟨zs ++ [z], by simp [hl], fun j r hj => ?_⟩
    rcases Nat.lt_or_ge j n with h1 | h1
    · rw [List.getElem?_append_left (by omega)] at hj
      exact hz j r hj
    · have hjl := (List.getElem?_eq_some_iff.1 hj).1
      simp only [List.length_append, List.length_cons, List.length_nil] at hjl
      obtain rfl : j = n := by omega
      rw [List.getElem?_append_right (by omega), hl, Nat.sub_self] at hj
      simp only [List.getElem?_cons_zero, Option.some.injEq] at hj
      subst hj; exact hzn

theorem open_calls {H : Type} {enc : TypeId × Value → H} {W : World} {base : Nat} {v : Value} {d : DataW H} {p : List MemPlace} {ts : List TypeId} {ds : List (DataW H)} (hval : Value.okWide Try.prog W .any base 36 v) (h : DataW.Trod enc Try.prog W 0 (fun _ => true) true 36 v d p)
    (hs : (DataW.weightsEach Try.prog ts ds).all (· ≤ reachBytes) = true) (j : Nat) (hj : ts[j]? = some 36) (hd : ds[j]? = some d) : ∃ A n cap rs, v = .slice A n cap ∧ CallsIn W A cap n rs ∧ n ≤ Rows.uptoBulk d ∧ n * 56 ≤ 140737488351232 := by
  obtain ⟨a0, len0, cap0, rfl⟩ := okWide_slice Try.underlying36 hval
  have hw : ∀ n ∈ d.weights Try.prog 36, n ≤ reachBytes := fun n hn => by
    have := DataW.weights_mem_each hj hd n hn
    simpa using List.all_eq_true.1 hs n this
  obtain ⟨fuel, hf⟩ := h
  rcases Deep.open_slice Try.underlying36 hf with ⟨hcs, _⟩ | ⟨a, len, cap, m, n, D, Pl, hcs, _, hl, hm, hmm, hx, hi⟩
  · simp [Value.cells] at hcs
    obtain ⟨rfl, rfl, rfl⟩ := hcs
    exact ⟨none, 0, 0, [], rfl, ⟨rfl, Nat.le_refl _, fun h => by omega⟩, Nat.zero_le _, by decide⟩
  · simp [Value.cells] at hcs
    obtain ⟨rfl, rfl, rfl⟩ := hcs
    simp only [if_true] at hmm
    subst hmm
    simp only [Prod.mk.injEq] at hx
    rw [hx.1] at hw
    simp only [DataW.weights, Try.underlying36] at hw
    rw [show Try.prog.cellsOf 41 = 3 by kernel_rfl] at hi
    have hp : ∀ j, j < len0 → ∃ r, RcOk W r ∧ ∃ cs', W.cells? 0 (a.add (j * 3)) 3 = some cs' ∧ cs' = rcC r := fun j hj => by
      obtain ⟨cs', hc, ht⟩ := hi j (by omega)
      obtain ⟨r, hr, hok⟩ := raw_of_trod ht (fun n hn => hw n (List.mem_cons.2 (.inr (List.mem_append.2 (.inl (mem_weightsAll (List.mem_map.2 ⟨j, by simpa using hj, rfl⟩) hn))))))
      exact ⟨r, hok, cs', hc, hr⟩
    obtain ⟨rs, hrl, hrs⟩ := raws_of len0 _ hp
    have hbk : len0 ≤ Rows.uptoBulk d := by
      rw [hx.1]
      have h5 := length_le ((List.range len0).map D)
      rw [List.length_map, List.length_range] at h5
      simp only [Rows.uptoBulk]
      omega
    have hbz : len0 * 56 ≤ 140737488351232 := by
      have h6 := hw _ (List.mem_cons_self ..)
      rw [show Try.prog.bytesOf 41 = 56 by kernel_rfl] at h6
      simp only [List.length_map, List.length_range] at h6
      unfold reachBytes at h6
      omega
    refine ⟨some a, len0, m, rs, rfl, ⟨hrl, hl, fun h0 => ?_⟩, hbk, hbz⟩
    obtain ⟨cs0, hc0, _⟩ := hi 0 (by omega)
    obtain ⟨_, _, hat0⟩ := World.cells?_some hc0
    have hl0 : cs0.length = 3 := by obtain ⟨_, h2, _⟩ := World.cells?_some hc0; exact h2
    have hz := hat0 0 (by omega)
    rw [List.getElem?_eq_getElem (by omega)] at hz
    obtain ⟨b, off, spot⟩ := a
    have hspot : spot = none := by simpa [Addr.add] using World.cell?_spot hz
    subst hspot
    refine ⟨b, off, rfl, ?_, fun k r hk => ?_⟩
    · have := World.block_lt_of_cell? W _ hz
      simpa [Addr.add] using this
    · obtain ⟨hok, cs', hc, rfl⟩ := hrs k r hk
      refine ⟨hok, fun j u hu => ?_⟩
      obtain ⟨_, _, hat⟩ := World.cells?_some hc
      have hjl := (List.getElem?_eq_some_iff.1 hu).1
      have := hat j (by simpa [rcC] using hjl)
      rw [hu] at this
      rw [← this, Deep.add_add, Addr.add_lit]
      all_goals (congr 2; omega)
end Go.Proofs.Ytlaopkkfgkcejaa.Qc
