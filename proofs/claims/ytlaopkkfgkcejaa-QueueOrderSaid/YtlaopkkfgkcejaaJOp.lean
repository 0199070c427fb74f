/- Joined texts. Arguments opened: a slice of numbers, a slice of structs of numbers. Conditions: as each theorem lists them. Bytes: slices of bytes as lists of numbers below 256, as strings, as arguments; Few. Conditions: as each theorem lists them. -/
import Derived.Test.YtlaopkkfgkcejaaJMm
import Derived.SizedLaws
import Derived.OpenShut
import Derived.Deep.Slices
import Derived.Deep.Fields
import Derived.ChangeSame
import Derived.ChangeAt
import Derived.Stop.Joined
import Derived.Test.YtlaopkkfgkcejaaJAm1
set_option linter.unusedSimpArgs false
set_option linter.unusedVariables false
set_option maxRecDepth 100000

namespace Go.Proofs.Ytlaopkkfgkcejaa
open Go Go.RowKit Go.ChangeShapes Go.WideShapes Go.ChangeAt Go.WideMaps Go.WideElems

/-- What a row of structs of numbers has in memory, cell by cell. -/
theorem rows_cells {H : Type} {enc : TypeId × Value → H} {P : Program} {W : World} {t e : TypeId} {fs : Array Field} {fuel : Nat} {cs : List Value} {x : DataW H × List MemPlace} (ht : P.underlying t = some (.slice e)) (he : P.underlying e = some (.struct fs))
    (hone : Deep.oneCellFields P fs = true) (hC : P.cellsOf e = fs.size) (hint : ∀ f ∈ fs, P.underlying f.type = some (.int .i64)) (h : DataW.trod enc P W 0 (fun _ => true) true fuel t cs = some x) :
    (cs = [.slice none 0 0] ∧ x.1 = .nil) ∨
    ∃ (a : Addr) (len cap : Nat) (es sp : List (DataW H)), cs = [.slice (some a) len cap] ∧ len ≤ cap ∧ cap ≤ maxLen ∧ x.1 = .slice es sp ∧ len ≤ es.length + sp.length ∧
      ∀ j, j < len * fs.size → ∃ z : Int, W.cell? (a.add j) = some (.int .i64 z) ∧ (Lit.int .i64 z).wf = true := by
  rcases Deep.open_slice ht h with ⟨h1, h2⟩ | ⟨a, len, cap, m, n, D, Pl, hcs, _, hl, hm, hmm, hx, hi⟩
  · exact .inl ⟨h1, by rw [h2]⟩
  · simp only [if_true] at hmm
    subst hmm
    refine .inr ⟨a, len, m, _, _, hcs, hl, hm, by rw [hx], by simp, fun j hj => ?_⟩
    have hpos : 0 < fs.size := by
      rcases Nat.eq_zero_or_pos fs.size with h0 | h0
      · rw [h0] at hj; omega
      · exact h0
    have hdl : j / fs.size < len := (Nat.div_lt_iff_lt_mul hpos).2 hj
    have hml : j % fs.size < fs.size := Nat.mod_lt _ hpos
    obtain ⟨cs', hc, ht'⟩ := hi (j / fs.size) (by omega)
    rw [hC] at hc
    obtain ⟨ys, n', _, _, _, _, hf⟩ := DataW.trod_struct he ht'
    obtain ⟨_, hcl, hat⟩ := World.cells?_some hc
    have hfj : fs[j % fs.size]? = some (fs[j % fs.size]'hml) := Array.getElem?_eq_getElem hml
    obtain ⟨ho, hk⟩ := Deep.hone_of hone _ _ hfj
    have h1 := hf _ _ hfj
    rw [ho, hk] at h1
    have h2 : (cs'.drop (j % fs.size)).take 1 = [cs'[j % fs.size]'(by omega)] := by
      rw [List.drop_eq_getElem_cons (by omega)]
      rfl
    rw [h2] at h1
    have hys : ys[j % fs.size]? ≠ none := by
      intro hn
      rw [List.getElem?_eq_none_iff] at hn
      have : ys.length = fs.size := by assumption
      omega
    obtain ⟨y, hy⟩ := Option.ne_none_iff_exists'.1 hys
    rw [hy] at h1
    obtain ⟨z, hz, _, hw⟩ := DataW.trod_int (hint _ (by simp)) h1
    refine ⟨z, ?_, hw⟩
    have hcell := hat (j % fs.size) hml
    rw [List.getElem?_eq_getElem (by omega)] at hcell
    simp only [List.cons.injEq, and_true] at hz
    rw [hz] at hcell
    rw [← hcell, Deep.add_add, show j / fs.size * fs.size + j % fs.size = j from Nat.div_add_mod' _ _]

theorem list_of (n : Nat) (p : Nat → Int → Prop) (h : ∀ j, j < n → ∃ z, p j z) : ∃ zs : List Int, zs.length = n ∧ ∀ j, j < n → p j (zs.getD j 0) := by
  induction n with
  | zero => exact ⟨[], rfl, fun j hj => by omega⟩
  | succ n ih =>
    obtain ⟨zs, hl, hz⟩ := ih fun j hj => h j (by omega)
    obtain ⟨z, hzn⟩ := h n (by omega)
    refine ⟨zs ++ [z], by simp [hl], fun j hj => ?_⟩
    rcases Nat.lt_or_ge j n with h1 | h1
    · have := hz j h1
      simpa [List.getD, List.getElem?_append_left (show j < zs.length by omega)] using this
    · obtain rfl : j = n := by omega
      simpa [List.getD, ← hl] using hzn

/-- A slice of structs of k numbers each, as an argument. -/
structure IsRows (W : World) (A : Option Addr) (cap n k : Nat) (zs : List Int) : Prop where
  len : zs.length = n * k
  rd : Rd W W.heap.size A (n * k) (ints zs)
  lt : ∀ z ∈ zs, -9223372036854775808 ≤ z ∧ z ≤ 9223372036854775807
  cap : n ≤ cap
  reach : n * 8 * k ≤ 140737488351232

theorem open_rows {H : Type} {enc : TypeId × Value → H} {P : Program} {W : World} {base : Nat} {t e : TypeId} {fs : Array Field} {v : Value} {d : DataW H} {p : List MemPlace} (ht : P.underlying t = some (.slice e)) (he : P.underlying e = some (.struct fs))
    (hone : Deep.oneCellFields P fs = true) (hC : P.cellsOf e = fs.size) (hint : ∀ f ∈ fs, P.underlying f.type = some (.int .i64)) (hby : P.bytesOf e = 8 * fs.size) {ts : List TypeId} {ds : List (DataW H)}
    (hval : Value.okWide P W .any base t v) (h : DataW.Trod enc P W 0 (fun _ => true) true t v d p) (hs : (DataW.weightsEach P ts ds).all (· ≤ reachBytes) = true) (j : Nat) (hj : ts[j]? = some t) (hd : ds[j]? = some d) :
    ∃ A n cap zs, v = .slice A n cap ∧ IsRows W A cap n fs.size zs := by
  obtain ⟨a0, len0, cap0, rfl⟩ := okWide_slice ht hval
  obtain ⟨fuel, hf⟩ := h
  rcases rows_cells ht he hone hC hint hf with ⟨hcs, hd'⟩ | ⟨x, len, cap, es, sp, hcs, hl, hm, hd', hle, hcell⟩
  · simp [Value.cells] at hcs
    obtain ⟨rfl, rfl, rfl⟩ := hcs
    exact ⟨none, 0, 0, [], rfl, ⟨by simp, by rw [Nat.zero_mul]; exact Rd.nil _ _ _, (fun z hz => by cases hz), Nat.le_refl _, by simp⟩⟩
  · simp [Value.cells] at hcs
    obtain ⟨rfl, rfl, rfl⟩ := hcs
    obtain ⟨zs, hzl, hz⟩ := list_of (len0 * fs.size) (fun j z => W.cell? (x.add j) = some (.int .i64 z) ∧ (Lit.int .i64 z).wf = true) hcell
    simp only at hd'
    subst hd'
    refine ⟨some x, len0, cap0, zs, rfl, ⟨hzl, ⟨by rw [ints_len, hzl], fun h0 => ?_⟩, fun z hzm => ?_, hl, ?_⟩⟩
    · obtain ⟨b, off, spot⟩ := x
      have hc0 := (hz 0 h0).1
      have hspot : spot = none := by simpa [Addr.add] using World.cell?_spot hc0
      subst hspot
      refine ⟨b, off, rfl, World.block_lt_of_cell? W _ hc0, fun j u hu => ?_⟩
      have hjl : j < zs.length := by
        have := (List.getElem?_eq_some_iff.1 hu).1
        rwa [ints_len] at this
      rw [ints_get zs j hjl] at hu
      cases hu
      have := (hz j (by omega)).1
      rwa [Addr.add_lit] at this
    · obtain ⟨j, hj, rfl⟩ := List.mem_iff_getElem.1 hzm
      have := (hz j (by omega)).2
      rw [show zs.getD j 0 = zs[j] by simp [List.getD, hj]] at this
      exact bounds_i64 this
    · have := sized_slice hs hj hd ht
      rw [hby] at this
      unfold reachBytes at this
      have : len0 * (8 * fs.size) ≤ 140737488351232 := Nat.le_trans (Nat.mul_le_mul_right _ hle) this
      rwa [Nat.mul_assoc]

/-- A slice of numbers, as an argument. -/
structure IsInts (W : World) (A : Option Addr) (cap : Nat) (l : List Int) : Prop where
  rd : Rd W W.heap.size A l.length (ints l)
  lt : ∀ n ∈ l, -9223372036854775808 ≤ n ∧ n ≤ 9223372036854775807
  cap : l.length ≤ cap
  reach : l.length * 8 ≤ 140737488351232

theorem open_nums {H : Type} {enc : TypeId × Value → H} {P : Program} {W : World} {base : Nat} {t e : TypeId} {k : IntKind} {v : Value} {d : DataW H} {p : List MemPlace} (ht : P.underlying t = some (.slice e)) (he : P.underlying e = some (.int k)) (hc : P.cellsOf e = 1)
    (hval : Value.okWide P W .any base t v) (h : DataW.Trod enc P W 0 (fun _ => true) true t v d p) :
    ∃ A cap, ∃ zs : List Int, v = .slice A zs.length cap ∧ zs.length ≤ cap ∧ (∀ n ∈ zs, (Lit.int k n).wf = true) ∧ Rd W W.heap.size A zs.length (zs.map (Value.int k)) ∧ (d = .nil ∧ zs = [] ∨ ∃ es sp, d = .slice es sp ∧ zs.length ≤ es.length + sp.length) := by
  obtain ⟨a0, len0, cap0, rfl⟩ := okWide_slice ht hval
  obtain ⟨fuel, hf⟩ := h
  rcases open_ints ht he hc hf with ⟨hcs, hd⟩ | ⟨x, len, cap, zs, hcs, _, hl, hm, hz, hd, hcell, hwz⟩
  · simp [Value.cells] at hcs
    obtain ⟨rfl, rfl, rfl⟩ := hcs
    simp only [Prod.mk.injEq] at hd
    exact ⟨none, 0, [], rfl, Nat.le_refl _, fun n hn => (by cases hn), ⟨rfl, fun h => (by cases h)⟩, .inl ⟨hd.1, rfl⟩⟩
  · simp [Value.cells] at hcs
    obtain ⟨rfl, rfl, rfl⟩ := hcs
    simp only [if_true] at hz
    have hlen : (zs.take len0).length = len0 := by rw [List.length_take]; omega
    refine ⟨some x, cap0, zs.take len0, by rw [hlen], by omega, fun n hn => hwz n (List.mem_of_mem_take hn), ⟨by simp, fun h0 => ?_⟩, .inr ⟨_, _, (Prod.mk.inj hd).1, by simp [lits]⟩⟩
    rw [hlen] at h0
    obtain ⟨b, off, spot⟩ := x
    have hc0 := hcell 0 (by omega)
    have hspot : spot = none := by simpa [Addr.add] using World.cell?_spot hc0
    subst hspot
    refine ⟨b, off, rfl, World.block_lt_of_cell? W _ hc0, fun j u hu => ?_⟩
    rw [List.getElem?_map, Option.map_eq_some_iff] at hu
    obtain ⟨z, hz', rfl⟩ := hu
    rw [List.getElem?_take] at hz'
    split at hz'
    · have hj := (List.getElem?_eq_some_iff.1 hz').1
      have := hcell j hj
      rw [Addr.add_lit] at this
      rw [this]
      simp [List.getD, hz']
    · cases hz'

theorem open_intl {H : Type} {enc : TypeId × Value → H} {W : World} {base : Nat} {v : Value} {d : DataW H} {p : List MemPlace} {ts : List TypeId} {ds : List (DataW H)} (hval : Value.okWide Try.prog W .any base 32 v) (h : DataW.Trod enc Try.prog W 0 (fun _ => true) true 32 v d p)
    (hs : (DataW.weightsEach Try.prog ts ds).all (· ≤ reachBytes) = true) (j : Nat) (hj : ts[j]? = some 32) (hd : ds[j]? = some d) : ∃ A cap l, v = .slice A l.length cap ∧ IsInts W A cap l := by
  obtain ⟨A, cap, zs, rfl, h1, h2, h3, h4⟩ := open_nums Try.underlying32 Try.underlying3 (by kernel_rfl) hval h
  refine ⟨A, cap, zs, rfl, ⟨h3, fun n hn => bounds_i64 (h2 n hn), h1, ?_⟩⟩
  rcases h4 with ⟨_, rfl⟩ | ⟨es, sp, rfl, h4⟩
  · simp
  · have := sized_slice hs hj hd Try.underlying32
    rw [show Try.prog.bytesOf 3 = 8 by kernel_rfl] at this
    unfold reachBytes at this
    omega
end Go.Proofs.Ytlaopkkfgkcejaa

namespace Go.Proofs.Ytlaopkkfgkcejaa
open Go Go.RowKit Go.ChangeShapes Go.WideShapes Go.ChangeAt Go.WideMaps Go.WideElems

def bv (bs : List Nat) : List Value := bs.map fun b : Nat => Value.int .u8 (b : Int)
theorem ones_bv (bs : List Nat) : ones (bv bs) := fun u hu => by
  unfold bv at hu
  rw [List.mem_map] at hu
  obtain ⟨b, _, rfl⟩ := hu
  rfl
theorem bv_len (bs : List Nat) : (bv bs).length = bs.length := by simp [bv]
theorem bv_take (bs : List Nat) (k : Nat) : (bv bs).take k = bv (bs.take k) := by simp [bv]
theorem bv_drop (bs : List Nat) (k : Nat) : (bv bs).drop k = bv (bs.drop k) := by simp [bv]
theorem bv_app (a b : List Nat) : bv (a ++ b) = bv a ++ bv b := by simp [bv]
theorem bv_get (l : List Nat) (j : Nat) (h : j < l.length) : (bv l)[j]? = some (.int .u8 ((l.getD j 0 : Nat) : Int)) := by simp [bv, List.getD, h]
theorem getD_lt {l : List Nat} (h : ∀ c ∈ l, c < 256) (j : Nat) : l.getD j 0 < 256 := by
  rcases Nat.lt_or_ge j l.length with h1 | h1
  · simp only [List.getD, List.getElem?_eq_getElem h1, Option.getD_some]
    exact h _ (List.getElem_mem h1)
  · simp [List.getD, List.getElem?_eq_none h1]
theorem take_snoc (l : List Nat) (k : Nat) (h : k < l.length) : l.take (k + 1) = l.take k ++ [l.getD k 0] := by
  rw [List.take_succ_eq_append_getElem h]
  simp [List.getD, h]

/-- The bytes as a string. -/
def strOf (bs : List Nat) : ByteArray := ⟨(bs.map UInt8.ofNat).toArray⟩
theorem strOf_inj {a b : List Nat} (ha : ∀ c ∈ a, c < 256) (hb : ∀ c ∈ b, c < 256) (h : strOf a = strOf b) : a = b := by
  unfold strOf at h
  have h1 : a.map UInt8.ofNat = b.map UInt8.ofNat := by
    have := congrArg (fun x => x.data.toList) h
    simpa using this
  have e : ∀ l : List Nat, (∀ c ∈ l, c < 256) → (l.map UInt8.ofNat).map UInt8.toNat = l := fun l hl => by
    rw [List.map_map]
    conv => rhs; rw [← List.map_id l]
    refine List.map_congr_left fun n hn => ?_
    simp only [Function.comp, id, UInt8.toNat_ofNat']
    exact Nat.mod_eq_of_lt (hl n hn)
  have := congrArg (List.map UInt8.toNat) h1
  rwa [e a ha, e b hb] at this

theorem conv_run {P : Program} (w : World) (src dst e : TypeId) (hs : P.underlying src = some (.slice e)) (he : P.underlying e = some (.int .u8)) (hd : P.underlying dst = some .string) (B : Nat) (A : Option Addr) (n c : Nat) (bs : List Nat) (hx : Rd w B A n (bv bs)) :
    (convert src dst (.slice A n c)).run P w = .ok (.string (strOf bs)) w := by
  have hl : bs.length = n := by simpa [bv] using hx.1
  rcases Nat.eq_zero_or_pos n with h0 | h0
  · subst h0
    have : bs = [] := List.eq_nil_of_length_eq_zero hl
    subst this
    cases A with
    | none => simp [convert, run_underlying hs, run_underlying hd, run_underlying he, Conv.bytesToString, strOf]; rfl
    | some a =>
      have := run_bytesToString (P := P) w a 0 c [] (by simp [loadCells, loadCellsFrom])
      simp only [convert, Sem.run_bind, run_underlying hs, run_underlying hd, Result.andThen_ok, run_underlying he, this]
      rfl
  · obtain ⟨b, off, rfl, _, hc⟩ := hx.2 h0
    have hld := run_loadCells_list (P := P) w ⟨b, off, none⟩ (bv bs) (fun j u hu => by rw [Addr.add_lit]; exact hc j u hu)
    rw [show (bv bs).length = n from hx.1] at hld
    have e1 : bv bs = (bs.map (fun b : Nat => (b : Int))).map (Value.int .u8) := by simp [bv]
    rw [e1] at hld
    have := run_bytesToString (P := P) w ⟨b, off, none⟩ n c _ hld
    rw [Am.fold_push] at this
    simp only [convert, Sem.run_bind, run_underlying hs, run_underlying hd, Result.andThen_ok, run_underlying he, this]
    congr 3
    simp [ByteArray.empty, ByteArray.emptyWithCapacity, Function.comp_def]
    rfl

theorem bytes_of (zs : List Int) (h : ∀ n ∈ zs, (Lit.int .u8 n).wf = true) : ∃ bs : List Nat, zs = bs.map (fun b : Nat => (b : Int)) ∧ ∀ c ∈ bs, c < 256 := by
  refine ⟨zs.map Int.toNat, ?_, fun c hc => ?_⟩
  · rw [List.map_map]
    conv => lhs; rw [← List.map_id zs]
    refine List.map_congr_left fun n hn => ?_
    have := bounds_u8 (h n hn)
    simp only [id, Function.comp]
    omega
  · rw [List.mem_map] at hc
    obtain ⟨n, hn, rfl⟩ := hc
    have := bounds_u8 (h n hn)
    omega

/-- What the walks are told of an argument of type []byte. -/
structure IsBytes (W : World) (A : Option Addr) (cap : Nat) (bs : List Nat) : Prop where
  rd : Rd W W.heap.size A bs.length (bv bs)
  lt : ∀ c ∈ bs, c < 256
  cap : bs.length ≤ cap
  reach : bs.length ≤ 140737488351232

theorem open_bytes {H : Type} {enc : TypeId × Value → H} {W : World} {base : Nat} {v : Value} {d : DataW H} {p : List MemPlace} {ts : List TypeId} {ds : List (DataW H)} (hval : Value.okWide Try.prog W .any base 22 v) (h : DataW.Trod enc Try.prog W 0 (fun _ => true) true 22 v d p)
    (hs : (DataW.weightsEach Try.prog ts ds).all (· ≤ reachBytes) = true) (j : Nat) (hj : ts[j]? = some 22) (hd : ds[j]? = some d) : ∃ A cap bs, v = .slice A bs.length cap ∧ IsBytes W A cap bs := by
  obtain ⟨A, cap, zs, rfl, h1, h2, h3, h4⟩ := open_nums Try.underlying22 Try.underlying5 (by kernel_rfl) hval h
  obtain ⟨bs, rfl, hb⟩ := bytes_of zs h2
  refine ⟨A, cap, bs, by simp, ⟨by simpa [bv, Function.comp_def] using h3, hb, by simpa using h1, ?_⟩⟩
  rcases h4 with ⟨_, h4⟩ | ⟨es, sp, rfl, h4⟩
  · have : bs = [] := by simpa using h4
    subst this; simp
  · have := sized_slice hs hj hd Try.underlying22
    rw [show Try.prog.bytesOf 5 = 1 by kernel_rfl] at this
    unfold reachBytes at this
    simp only [List.length_map] at h4
    omega

theorem infoB : (Try.prog.info? 5).map (fun i => (i.zero, i.size, i.bytes)) = some (some (.int .u8 0), 1, 1) := by kernel_rfl

set_option maxHeartbeats 1000000 in
theorem few_any (bs : List Nat) (B : Nat) (A : Option Addr) (cap n : Nat) (w : World) (hx : Rd w B A bs.length (bv bs)) (hB : B ≤ w.heap.size) (hn : bs.length ≤ cap) (hm : bs.length ≤ 140737488355328) :
    Calls Try.prog 17 #[.slice A bs.length cap, .int .i64 (n : Int)] w fun e w' => ∃ v', e = .returned v' ∧ w'.ownsRow w.heap.size 5 1 v' (bs.take n).length (bv (bs.take n)) ∧ Below w.heap.size w w' := by
  have HX := Lib.hid hx
  obtain ⟨i0, hi, hz0, hz1, hz2⟩ := info_parts infoB
  have HI := Lib.hid (And.intro hi (And.intro hz0 (And.intro hz1 hz2)))
  clear hx hi hz0 hz1 hz2
  by_cases hl : n < bs.length
  · have hli : (n : Int) < (bs.length : Int) := by omega
    have hlen : (bs.take n).length = n := by rw [List.length_take]; omega
    obtain ⟨b, off, hA, _, _⟩ := HX.out.2 (by omega)
    subst hA
    have HH : Hid (Rd w B (some ⟨b, off, none⟩) (n * 1) (bv (bs.take n))) := by
      have := HX.out.head n (by omega)
      rw [bv_take] at this
      rw [Nat.mul_one]
      exact this
    rw [hlen]
    clear hlen
    have hnc : (n : Int) ≤ (cap : Int) := by omega
    go_enter Try.func17, Try.ntmps17
    go_wp2_with (at_builtin; refine wpList_app _ rfl _ _ 22 rfl w.heap.size 5 i0 (.int .u8 0) 1 1 Try.underlying22 HI.out.1 HI.out.2.1 HI.out.2.2.1 HI.out.2.2.2 rfl (by decide) (.slice (some ⟨w.heap.size, 0, none⟩) 0 0) 0 [] rfl (own_new w #[] 5 1 0 _ _ rfl rfl (by unfold maxLen; omega) (Nat.le_refl _)) B (some ⟨b, off, none⟩) n cap (bv (bs.take n)) rfl (HH.out.below ((Below.refl _ _).alloc (Nat.le_refl _) _) hB) (ones_bv _) (by unfold maxLen; omega) (by omega) (by simp) ?_)
    intro v1 w1 hown1 hgrow1
    have HB1 : Hid (Below w.heap.size w w1) := ((Below.refl _ _).alloc (Nat.le_refl _) _).grown hgrow1 (by simp) (fun j hj => by simp [Value.ownBlock] at hj; omega)
    try simp only [Nat.zero_add, List.nil_append] at hown1
    have HO := Lib.hid hown1
    clear hown1 hgrow1
    go_wp2
    go_ret
    exact ⟨_, rfl, HO.out, HB1.out⟩
  · have hli : ¬ (n : Int) < (bs.length : Int) := by omega
    have hd : decide (n < bs.length) = false := by simpa using hl
    have ht : bs.take n = bs := List.take_of_length_le (by omega)
    rw [ht]
    clear ht
    have HH : Hid (Rd w B A (bs.length * 1) (bv bs)) := by show Rd _ _ _ _ _; rw [Nat.mul_one]; exact HX.out
    go_enter Try.func17, Try.ntmps17
    go_wp2_with (at_builtin; refine wpList_app _ rfl _ _ 22 rfl w.heap.size 5 i0 (.int .u8 0) 1 1 Try.underlying22 HI.out.1 HI.out.2.1 HI.out.2.2.1 HI.out.2.2.2 rfl (by decide) (.slice (some ⟨w.heap.size, 0, none⟩) 0 0) 0 [] rfl (own_new w #[] 5 1 0 _ _ rfl rfl (by unfold maxLen; omega) (Nat.le_refl _)) B A bs.length cap (bv bs) rfl (HH.out.below ((Below.refl _ _).alloc (Nat.le_refl _) _) hB) (ones_bv _) (by unfold maxLen; omega) (by omega) (by simp) ?_)
    intro v1 w1 hown1 hgrow1
    have HB1 : Hid (Below w.heap.size w w1) := ((Below.refl _ _).alloc (Nat.le_refl _) _).grown hgrow1 (by simp) (fun j hj => by simp [Value.ownBlock] at hj; omega)
    try simp only [Nat.zero_add, List.nil_append] at hown1
    have HO := Lib.hid hown1
    clear hown1 hgrow1
    go_wp2
    go_ret
    exact ⟨_, rfl, HO.out, HB1.out⟩
end Go.Proofs.Ytlaopkkfgkcejaa
