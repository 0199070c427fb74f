/- Bytes: slices of bytes as lists of numbers below 256, as strings, as arguments; Few. Conditions: as each theorem lists them. -/
import Derived.Test.YtoglpjgmnojdjaaOp
import Derived.Test.YtoglpjgmnojdjaaAm8
set_option linter.unusedSimpArgs false
set_option linter.unusedVariables false
set_option maxRecDepth 100000
namespace Go.Proofs.Ytoglpjgmnojdjaa
open Go Go.RowKit Go.ChangeShapes Go.WideShapes Go.ChangeAt Go.WideMaps Go.WideElems

def bv (bs : List Nat) : List Value := bs.map fun b : Nat => Value.int .u8 (b : Int)
theorem ones_bv (bs : List Nat) : ones (bv bs) := fun u hu => by
  unfold bv at hu
  rw [List.mem_map] at hu
  obtain ⟨b, _, rfl⟩ := hu
  rfl
theorem bv_len (bs : List Nat) : (bv bs).length = bs.length := by simp [bv]
theorem bv_take (bs : List Nat) (k : Nat) : (bv bs).take k = bv (bs.take k) := by simp [bv]
theorem bv_drop (bs : List Nat) (k : Nat) : (bv bs).drop k = bv (bs.drop k) := by simp [bv]
theorem bv_app (a b : List Nat) : bv (a ++ b) = bv a ++ bv b := by simp [bv]
theorem bv_get (l : List Nat) (j : Nat) (h : j < l.length) : (bv l)[j]? = some (.int .u8 ((l.getD j 0 : Nat) : Int)) := by simp [bv, List.getD, h]
theorem getD_lt {l : List Nat} (h : ∀ c ∈ l, c < 256) (j : Nat) : l.getD j 0 < 256 := by
  rcases Nat.lt_or_ge j l.length with h1 | h1
  · simp only [List.getD, List.getElem?_eq_getElem h1, Option.getD_some]
    exact h _ (List.getElem_mem h1)
  · simp [List.getD, List.getElem?_eq_none h1]
theorem take_snoc (l : List Nat) (k : Nat) (h : k < l.length) : l.take (k + 1) = l.take k ++ [l.getD k 0] := by
  rw [List.take_succ_eq_append_getElem h]
  simp [List.getD, h]

/-- The bytes as a string. -/
def strOf (bs : List Nat) : ByteArray := ⟨(bs.map UInt8.ofNat).toArray⟩
theorem strOf_inj {a b : List Nat} (ha : ∀ c ∈ a, c < 256) (hb : ∀ c ∈ b, c < 256) (h : strOf a = strOf b) : a = b := by
  unfold strOf at h
  have h1 : a.map UInt8.ofNat = b.map UInt8.ofNat := by
    have := congrArg (fun x => x.data.toList) h
    simpa using this
  have e : ∀ l : List Nat, (∀ c ∈ l, c < 256) → (l.map UInt8.ofNat).map UInt8.toNat = l := fun l hl => by
    rw [List.map_map]
    conv => rhs; rw [← List.map_id l]
    refine List.map_congr_left fun n hn => ?_
    simp only [Function.comp, id, UInt8.toNat_ofNat']
    exact Nat.mod_eq_of_lt (hl n hn)
  have := congrArg (List.map UInt8.toNat) h1
  rwa [e a ha, e b hb] at this

theorem conv_run {P : Program} (w : World) (src dst e : TypeId) (hs : P.underlying src = some (.slice e)) (he : P.underlying e = some (.int .u8)) (hd : P.underlying dst = some .string) (B : Nat) (A : Option Addr) (n c : Nat) (bs : List Nat) (hx : Rd w B A n (bv bs)) :
    (convert src dst (.slice A n c)).run P w = .ok (.string (strOf bs)) w := by
  have hl : bs.length = n := by simpa [bv] using hx.1
  rcases Nat.eq_zero_or_pos n with h0 | h0
  · subst h0
    have : bs = [] := List.eq_nil_of_length_eq_zero hl
    subst this
    cases A with
    | none => simp [convert, run_underlying hs, run_underlying hd, run_underlying he, Conv.bytesToString, strOf]; rfl
    | some a =>
      have := run_bytesToString (P := P) w a 0 c [] (by simp [loadCells, loadCellsFrom])
      simp only [convert, Sem.run_bind, run_underlying hs, run_underlying hd, Result.andThen_ok, run_underlying he, this]
      rfl
  · obtain ⟨b, off, rfl, _, hc⟩ := hx.2 h0
    have hld := run_loadCells_list (P := P) w ⟨b, off, none⟩ (bv bs) (fun j u hu => by rw [Addr.add_lit]; exact hc j u hu)
    rw [show (bv bs).length = n from hx.1] at hld
    have e1 : bv bs = (bs.map (fun b : Nat => (b : Int))).map (Value.int .u8) := by simp [bv]
    rw [e1] at hld
    have := run_bytesToString (P := P) w ⟨b, off, none⟩ n c _ hld
    rw [Am.fold_push] at this
    simp only [convert, Sem.run_bind, run_underlying hs, run_underlying hd, Result.andThen_ok, run_underlying he, this]
    congr 3
    simp [ByteArray.empty, ByteArray.emptyWithCapacity, Function.comp_def]
    rfl

theorem bytes_of (zs : List Int) (h : ∀ n ∈ zs, (Lit.int .u8 n).wf = true) : ∃ bs : List Nat, zs = bs.map (fun b : Nat => (b : Int)) ∧ ∀ c ∈ bs, c < 256 := by
  refine ⟨zs.map Int.toNat, ?_, fun c hc => ?_⟩
  · rw [List.map_map]
    conv => lhs; rw [← List.map_id zs]
    refine List.map_congr_left fun n hn => ?_
    have := bounds_u8 (h n hn)
    simp only [id, Function.comp]
    omega
  · rw [List.mem_map] at hc
    obtain ⟨n, hn, rfl⟩ := hc
    have := bounds_u8 (h n hn)
    omega

/-- What the walks are told of an argument of type []byte. -/
structure IsBytes (W : World) (A : Option Addr) (cap : Nat) (bs : List Nat) : Prop where
  rd : Rd W W.heap.size A bs.length (bv bs)
  lt : ∀ c ∈ bs, c < 256
  cap : bs.length ≤ cap
  reach : bs.length ≤ 140737488351232

theorem open_bytes {H : Type} {enc : TypeId × Value → H} {W : World} {base : Nat} {v : Value} {d : DataW H} {p : List MemPlace} {ts : List TypeId} {ds : List (DataW H)} (hval : Value.okWide Try.prog W .any base 49 v) (h : DataW.Trod enc Try.prog W 0 (fun _ => true) true 49 v d p)
    (hs : (DataW.weightsEach Try.prog ts ds).all (· ≤ reachBytes) = true) (j : Nat) (hj : ts[j]? = some 49) (hd : ds[j]? = some d) : ∃ A cap bs, v = .slice A bs.length cap ∧ IsBytes W A cap bs := by
  obtain ⟨A, cap, zs, rfl, h1, h2, h3, h4⟩ := open_nums Try.underlying49 Try.underlying5 (by kernel_rfl) hval h
  obtain ⟨bs, rfl, hb⟩ := bytes_of zs h2
  refine ⟨A, cap, bs, by simp, ⟨by simpa [bv, Function.comp_def] using h3, hb, by simpa using h1, ?_⟩⟩
  rcases h4 with ⟨_, h4⟩ | ⟨es, sp, rfl, h4⟩
  · have : bs = [] := by simpa using h4
    subst this; simp
  · have := sized_slice hs hj hd Try.underlying49
    rw [show Try.prog.bytesOf 5 = 1 by kernel_rfl] at this
    unfold reachBytes at this
    simp only [List.length_map] at h4
    omega

theorem infoB : (Try.prog.info? 5).map (fun i => (i.zero, i.size, i.bytes)) = some (some (.int .u8 0), 1, 1) := by kernel_rfl

end Go.Proofs.Ytoglpjgmnojdjaa
