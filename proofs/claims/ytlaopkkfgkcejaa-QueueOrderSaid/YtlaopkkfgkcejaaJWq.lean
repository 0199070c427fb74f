/- An argument of byte slices, opened (laid by se/port.py). Conditions: as each theorem lists them. -/
import Derived.Test.YtlaopkkfgkcejaaJOp
set_option linter.unusedSimpArgs false
set_option linter.unusedVariables false
set_option maxRecDepth 100000

namespace Go.Proofs.Ytlaopkkfgkcejaa
open Go Go.RowKit Go.ChangeShapes Go.WideShapes Go.ChangeAt Go.WideMaps Go.WideElems

/-- A value that reads as these bytes. -/
def IsPart (w : World) (B : Nat) (v : Value) (l : List Nat) : Prop :=
  ∃ A c, v = .slice A l.length c ∧ Rd w B A l.length (bv l) ∧ l.length ≤ c ∧ l.length ≤ 140737488355328 ∧ ∀ c ∈ l, c < 256

theorem IsPart.below {w w' : World} {B B' : Nat} {v : Value} {l : List Nat} (h : IsPart w B v l) (hb : Below B' w w') (hB : B ≤ B') : IsPart w' B v l := by
  obtain ⟨A, c, h1, h2, h3⟩ := h
  exact ⟨A, c, h1, h2.below hb hB, h3⟩

theorem IsPart.more {w : World} {B B' : Nat} {v : Value} {l : List Nat} (h : IsPart w B v l) (hB : B ≤ B') : IsPart w B' v l := by
  obtain ⟨A, c, h1, h2, h3⟩ := h
  exact ⟨A, c, h1, h2.more hB, h3⟩

/-- A row of them. -/
def Parts (w : World) (B : Nat) (A : Option Addr) (ps : List (List Nat)) : Prop :=
  ∃ vs, Rd w B A ps.length vs ∧ ∀ j, j < ps.length → ∃ v, vs[j]? = some v ∧ IsPart w B v (ps.getD j [])

theorem Parts.below {w w' : World} {B B' : Nat} {A : Option Addr} {ps : List (List Nat)} (h : Parts w B A ps) (hb : Below B' w w') (hB : B ≤ B') : Parts w' B A ps := by
  obtain ⟨vs, h1, h2⟩ := h
  refine ⟨vs, h1.below hb hB, fun j hj => ?_⟩
  obtain ⟨v, h3, h4⟩ := h2 j hj
  exact ⟨v, h3, h4.below hb hB⟩


theorem mem_weightsAll {H : Type} {P : Program} {e : TypeId} {n : Nat} {x : DataW H} : ∀ {l : List (DataW H)}, x ∈ l → n ∈ x.weights P e → n ∈ DataW.weightsAll P e l
  | y :: l, h, hn => by
    simp only [DataW.weightsAll, List.mem_append]
    rcases List.mem_cons.1 h with rfl | h
    · exact .inl hn
    · exact .inr (mem_weightsAll h hn)

theorem part_of_trod {H : Type} {enc : TypeId × Value → H} {W : World} {fuel : Nat} {v : Value} {x : DataW H × List MemPlace} (h : DataW.trod enc Try.prog W 0 (fun _ => true) true fuel 22 [v] = some x) (hw : ∀ n ∈ x.1.weights Try.prog 22, n ≤ reachBytes) :
    ∃ l, IsPart W W.heap.size v l := by
  rcases open_ints Try.underlying22 Try.underlying5 (by kernel_rfl) h with ⟨hcs, hd⟩ | ⟨a, len0, cap0, zs, hcs, _, hl, hm, hz, hd, hcell, hwz⟩
  · simp only [List.cons.injEq, and_true] at hcs
    subst hcs
    exact ⟨[], none, 0, rfl, Rd.nil _ _ _, Nat.le_refl _, by simp, fun c hc => by cases hc⟩
  · simp only [List.cons.injEq, and_true] at hcs
    subst hcs
    simp only [if_true] at hz
    have hlen : (zs.take len0).length = len0 := by rw [List.length_take]; omega
    obtain ⟨bs, hbs, hb⟩ := bytes_of (zs.take len0) (fun n hn => hwz n (List.mem_of_mem_take hn))
    have hbl : bs.length = len0 := by rw [← hlen, hbs, List.length_map]
    refine ⟨bs, some a, cap0, by rw [hbl], ⟨by rw [bv_len], fun h0 => ?_⟩, by omega, ?_, hb⟩
    · rw [hbl] at h0
      obtain ⟨b, off, spot⟩ := a
      have hc0 := hcell 0 (by omega)
      have hspot : spot = none := by simpa [Addr.add] using World.cell?_spot hc0
      subst hspot
      refine ⟨b, off, rfl, World.block_lt_of_cell? W _ hc0, fun j u hu => ?_⟩
      have hbv : bv bs = (zs.take len0).map (Value.int .u8) := by rw [hbs]; simp [bv]
      rw [hbv, List.getElem?_map, Option.map_eq_some_iff] at hu
      obtain ⟨z, hz', rfl⟩ := hu
      rw [List.getElem?_take] at hz'
      split at hz'
      · have hj := (List.getElem?_eq_some_iff.1 hz').1
        have := hcell j hj
        rw [Addr.add_lit] at this
        rw [this]
        simp [List.getD, hz']
      · cases hz'
    · rw [hd] at hw
      have := hw (zs.length * 1) (by
        simp only [DataW.weights, Try.underlying22]
        rw [show Try.prog.bytesOf 5 = 1 by kernel_rfl]
        refine List.mem_cons.2 (.inl ?_)
        simp [lits]
        omega)
      unfold reachBytes at this
      omega

theorem lists_of (n : Nat) (p : Nat → List Nat → Prop) (h : ∀ j, j < n → ∃ z, p j z) : ∃ zs : List (List Nat), zs.length = n ∧ ∀ j, j < n → p j (zs.getD j []) := by
  induction n with
  | zero => exact ⟨[], rfl, fun j hj => by omega⟩
  | succ n ih =>
    obtain ⟨zs, hl, hz⟩ := ih fun j hj => h j (by omega)
    obtain ⟨z, hzn⟩ := h n (by omega)
    refine ⟨zs ++ [z], by simp [hl], fun j hj => ?_⟩
    rcases Nat.lt_or_ge j n with h1 | h1
    · have := hz j h1
      simpa [List.getD, List.getElem?_append_left (show j < zs.length by omega)] using this
    · obtain rfl : j = n := by omega
      simpa [List.getD, ← hl] using hzn

/-- What the walks are told of an argument of type [][]byte. -/
structure IsParts (W : World) (A : Option Addr) (cap : Nat) (ps : List (List Nat)) : Prop where
  parts : Parts W W.heap.size A ps
  cap : ps.length ≤ cap
  reach : ps.length ≤ 140737488351232

theorem open_parts {H : Type} {enc : TypeId × Value → H} {W : World} {base : Nat} {v : Value} {d : DataW H} {p : List MemPlace} {ts : List TypeId} {ds : List (DataW H)} (hval : Value.okWide Try.prog W .any base 48 v) (h : DataW.Trod enc Try.prog W 0 (fun _ => true) true 48 v d p)
    (hs : (DataW.weightsEach Try.prog ts ds).all (· ≤ reachBytes) = true) (j : Nat) (hj : ts[j]? = some 48) (hd : ds[j]? = some d) : ∃ A cap ps, v = .slice A ps.length cap ∧ IsParts W A cap ps := by
  obtain ⟨a0, len0, cap0, rfl⟩ := okWide_slice Try.underlying48 hval
  have hw : ∀ n ∈ d.weights Try.prog 48, n ≤ reachBytes := fun n hn => by
    have := DataW.weights_mem_each hj hd n hn
    simpa using List.all_eq_true.1 hs n this
  obtain ⟨fuel, hf⟩ := h
  rcases Deep.open_slice1 Try.underlying48 (by kernel_rfl) hf with ⟨hcs, _⟩ | ⟨a, len, cap, m, n, V, D, Pl, hcs, _, hl, hm, hmm, hx, hi⟩
  · simp [Value.cells] at hcs
    obtain ⟨rfl, rfl, rfl⟩ := hcs
    exact ⟨none, 0, [], rfl, ⟨[], Rd.nil _ _ _, fun j hj => by simp at hj⟩, Nat.le_refl _, by simp⟩
  · simp [Value.cells] at hcs
    obtain ⟨rfl, rfl, rfl⟩ := hcs
    simp only [if_true] at hmm
    subst hmm
    simp only [Prod.mk.injEq] at hx
    rw [hx.1] at hw
    simp only [DataW.weights, Try.underlying48] at hw
    have hp : ∀ j, j < len0 → ∃ l, IsPart W W.heap.size (V j) l := fun j hj =>
      part_of_trod (hi j (by omega)).2 (fun n hn => hw n (List.mem_cons.2 (.inr (List.mem_append.2 (.inl (mem_weightsAll (List.mem_map.2 ⟨j, by simpa using hj, rfl⟩) hn))))))
    obtain ⟨ps, hpl, hps⟩ := lists_of len0 (fun j l => IsPart W W.heap.size (V j) l) hp
    refine ⟨some a, m, ps, by rw [hpl], ⟨(List.range len0).map V, ⟨by simp [hpl], fun h0 => ?_⟩, fun j hj => ?_⟩, by omega, ?_⟩
    · obtain ⟨b, off, spot⟩ := a
      have hc0 := (hi 0 (by omega)).1
      have hspot : spot = none := by simpa [Addr.add] using World.cell?_spot hc0
      subst hspot
      refine ⟨b, off, rfl, World.block_lt_of_cell? W _ hc0, fun j u hu => ?_⟩
      rw [List.getElem?_map, Option.map_eq_some_iff] at hu
      obtain ⟨z, hz', rfl⟩ := hu
      obtain ⟨hjl, rfl⟩ := List.getElem?_eq_some_iff.1 hz'
      simp only [List.length_range] at hjl
      simp only [List.getElem_range]
      have := (hi j (by omega)).1
      rwa [Addr.add_lit] at this
    · rw [hpl] at hj
      exact ⟨V j, by simp [hj], hps j hj⟩
    · have := hw _ (List.mem_cons.2 (.inl rfl))
      rw [show Try.prog.bytesOf 22 = 24 by kernel_rfl] at this
      simp only [List.length_map, List.length_range] at this
      unfold reachBytes at this
      omega
end Go.Proofs.Ytlaopkkfgkcejaa
