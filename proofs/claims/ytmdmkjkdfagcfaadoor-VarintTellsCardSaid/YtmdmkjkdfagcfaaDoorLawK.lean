/- Arguments opened: slices of numbers. Conditions: as each theorem lists them. -/
import Derived.Test.YtmdmkjkdfagcfaaDoorW7
import Derived.SizedLaws
namespace Go.Proofs.YtmdmkjkdfagcfaaDoor
open Go Go.RowKit Go.ChangeShapes Go.WideShapes Go.ChangeAt Go.WideMaps Go.WideElems

theorem open_nums {H : Type} {enc : TypeId × Value → H} {P : Program} {W : World} {base : Nat} {t e : TypeId} {k : IntKind} {v : Value} {d : DataW H} {p : List MemPlace} (ht : P.underlying t = some (.slice e)) (he : P.underlying e = some (.int k)) (hc : P.cellsOf e = 1)
    (hval : Value.okWide P W .any base t v) (h : DataW.Trod enc P W 0 (fun _ => true) true t v d p) :
    ∃ A cap, ∃ zs : List Int, v = .slice A zs.length cap ∧ zs.length ≤ cap ∧ (∀ n ∈ zs, (Lit.int k n).wf = true) ∧ Rd W W.heap.size A zs.length (zs.map (Value.int k)) ∧ (d = .nil ∧ zs = [] ∨ ∃ es sp, d = .slice es sp ∧ zs.length ≤ es.length + sp.length) := by
  obtain ⟨a0, len0, cap0, rfl⟩ := okWide_slice ht hval
  obtain ⟨fuel, hf⟩ := h
  rcases open_ints ht he hc hf with ⟨hcs, hd⟩ | ⟨x, len, cap, zs, hcs, _, hl, hm, hz, hd, hcell, hwz⟩
  · simp [Value.cells] at hcs
    obtain ⟨rfl, rfl, rfl⟩ := hcs
    simp only [Prod.mk.injEq] at hd
    exact ⟨none, 0, [], rfl, Nat.le_refl _, fun n hn => (by cases hn), ⟨rfl, fun h => (by cases h)⟩, .inl ⟨hd.1, rfl⟩⟩
  · simp [Value.cells] at hcs
    obtain ⟨rfl, rfl, rfl⟩ := hcs
    simp only [if_true] at hz
    have hlen : (zs.take len0).length = len0 := by rw [List.length_take]; omega
    refine ⟨some x, cap0, zs.take len0, by rw [hlen], by omega, fun n hn => hwz n (List.mem_of_mem_take hn), ⟨by simp, fun h0 => ?_⟩, .inr ⟨_, _, (Prod.mk.inj hd).1, by simp [lits]⟩⟩
    rw [hlen] at h0
    obtain ⟨b, off, spot⟩ := x
    have hc0 := hcell 0 (by omega)
    have hspot : spot = none := by simpa [Addr.add] using World.cell?_spot hc0
    subst hspot
    refine ⟨b, off, rfl, World.block_lt_of_cell? W _ hc0, fun j u hu => ?_⟩
    rw [List.getElem?_map, Option.map_eq_some_iff] at hu
    obtain ⟨z, hz', rfl⟩ := hu
    rw [List.getElem?_take] at hz'
    split at hz'
    · have hj := (List.getElem?_eq_some_iff.1 hz').1
      have := hcell j hj
      rw [Addr.add_lit] at this
      rw [this]
      simp [List.getD, hz']
    · cases hz'

theorem bytes_of (zs : List Int) (h : ∀ n ∈ zs, (Lit.int .u8 n).wf = true) : ∃ bs : List Nat, zs = bs.map (fun b : Nat => (b : Int)) ∧ ∀ c ∈ bs, c < 256 := by
  refine ⟨zs.map Int.toNat, ?_, fun c hc => ?_⟩
  · rw [List.map_map]
    conv => lhs; rw [← List.map_id zs]
    refine List.map_congr_left fun n hn => ?_
    have := bounds_u8 (h n hn)
    simp only [id, Function.comp]
    omega
  · rw [List.mem_map] at hc
    obtain ⟨n, hn, rfl⟩ := hc
    have := bounds_u8 (h n hn)
    omega

/-- What the walks are told of an argument of type []byte. -/
structure IsBytes (W : World) (A : Option Addr) (cap : Nat) (bs : List Nat) : Prop where
  rd : Rd W W.heap.size A bs.length (bv bs)
  lt : ∀ c ∈ bs, c < 256
  cap : bs.length ≤ cap
  reach : bs.length ≤ 140737488351232

structure IsInts (W : World) (A : Option Addr) (cap : Nat) (l : List Int) : Prop where
  rd : Rd W W.heap.size A l.length (ints l)
  lt : ∀ n ∈ l, -9223372036854775808 ≤ n ∧ n ≤ 9223372036854775807
  cap : l.length ≤ cap
  reach : l.length * 8 ≤ 140737488351232

theorem open_bytes {H : Type} {enc : TypeId × Value → H} {W : World} {base : Nat} {v : Value} {d : DataW H} {p : List MemPlace} {ts : List TypeId} {ds : List (DataW H)} (hval : Value.okWide Tryd.prog W .any base 22 v) (h : DataW.Trod enc Tryd.prog W 0 (fun _ => true) true 22 v d p)
    (hs : (DataW.weightsEach Tryd.prog ts ds).all (· ≤ reachBytes) = true) (j : Nat) (hj : ts[j]? = some 22) (hd : ds[j]? = some d) : ∃ A cap bs, v = .slice A bs.length cap ∧ IsBytes W A cap bs := by
  obtain ⟨A, cap, zs, rfl, h1, h2, h3, h4⟩ := open_nums Tryd.underlying22 Tryd.underlying5 (by kernel_rfl) hval h
  obtain ⟨bs, rfl, hb⟩ := bytes_of zs h2
  refine ⟨A, cap, bs, by simp, ⟨by simpa [bv, Function.comp_def] using h3, hb, by simpa using h1, ?_⟩⟩
  rcases h4 with ⟨_, h4⟩ | ⟨es, sp, rfl, h4⟩
  · have : bs = [] := by simpa using h4
    subst this; simp
  · have := sized_slice hs hj hd Tryd.underlying22
    rw [show Tryd.prog.bytesOf 5 = 1 by kernel_rfl] at this
    unfold reachBytes at this
    simp only [List.length_map] at h4
    omega

theorem open_intl {H : Type} {enc : TypeId × Value → H} {W : World} {base : Nat} {v : Value} {d : DataW H} {p : List MemPlace} {ts : List TypeId} {ds : List (DataW H)} (hval : Value.okWide Tryd.prog W .any base 24 v) (h : DataW.Trod enc Tryd.prog W 0 (fun _ => true) true 24 v d p)
    (hs : (DataW.weightsEach Tryd.prog ts ds).all (· ≤ reachBytes) = true) (j : Nat) (hj : ts[j]? = some 24) (hd : ds[j]? = some d) : ∃ A cap l, v = .slice A l.length cap ∧ IsInts W A cap l := by
  obtain ⟨A, cap, zs, rfl, h1, h2, h3, h4⟩ := open_nums Tryd.underlying24 Tryd.underlying3 (by kernel_rfl) hval h
  refine ⟨A, cap, zs, rfl, ⟨h3, fun n hn => bounds_i64 (h2 n hn), h1, ?_⟩⟩
  rcases h4 with ⟨_, rfl⟩ | ⟨es, sp, rfl, h4⟩
  · simp
  · have := sized_slice hs hj hd Tryd.underlying24
    rw [show Tryd.prog.bytesOf 3 = 8 by kernel_rfl] at this
    unfold reachBytes at this
    omega
end Go.Proofs.YtmdmkjkdfagcfaaDoor
