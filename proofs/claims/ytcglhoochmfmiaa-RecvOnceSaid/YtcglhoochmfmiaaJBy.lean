/- Bytes: slices of bytes as lists of numbers below 256, as strings, as arguments; Few. Conditions: as each theorem lists them. -/
import Derived.Test.YtcglhoochmfmiaaJOp
import Derived.Test.YtcglhoochmfmiaaJ1
set_option linter.unusedSimpArgs false
set_option linter.unusedVariables false
set_option maxRecDepth 100000

namespace Go.Proofs.Ytcglhoochmfmiaa
open Go Go.RowKit Go.ChangeShapes Go.WideShapes Go.ChangeAt Go.WideMaps Go.WideElems

def bv (bs : List Nat) : List Value := bs.map fun b : Nat => Value.int .u8 (b : Int)
theorem ones_bv (bs : List Nat) : ones (bv bs) := fun u hu => by
  unfold bv at hu
  rw [List.mem_map] at hu
  obtain ⟨b, _, rfl⟩ := hu
  rfl
theorem bv_len (bs : List Nat) : (bv bs).length = bs.length := by simp [bv]
theorem bv_take (bs : List Nat) (k : Nat) : (bv bs).take k = bv (bs.take k) := by simp [bv]
theorem bv_drop (bs : List Nat) (k : Nat) : (bv bs).drop k = bv (bs.drop k) := by simp [bv]
theorem bv_app (a b : List Nat) : bv (a ++ b) = bv a ++ bv b := by simp [bv]
theorem bv_get (l : List Nat) (j : Nat) (h : j < l.length) : (bv l)[j]? = some (.int .u8 ((l.getD j 0 : Nat) : Int)) := by simp [bv, List.getD, h]
theorem getD_lt {l : List Nat} (h : ∀ c ∈ l, c < 256) (j : Nat) : l.getD j 0 < 256 := by
  rcases Nat.lt_or_ge j l.length with h1 | h1
  · simp only [List.getD, List.getElem?_eq_getElem h1, Option.getD_some]
    exact h _ (List.getElem_mem h1)
  · simp [List.getD, List.getElem?_eq_none h1]
theorem take_snoc (l : List Nat) (k : Nat) (h : k < l.length) : l.take (k + 1) = l.take k ++ [l.getD k 0] := by
  rw [List.take_succ_eq_append_getElem h]
  simp [List.getD, h]

/-- The bytes as a string. -/
def strOf (bs : List Nat) : ByteArray := ⟨(bs.map UInt8.ofNat).toArray⟩
theorem strOf_inj {a b : List Nat} (ha : ∀ c ∈ a, c < 256) (hb : ∀ c ∈ b, c < 256) (h : strOf a = strOf b) : a = b := by
  unfold strOf at h
  have h1 : a.map UInt8.ofNat = b.map UInt8.ofNat := by
    have := congrArg (fun x => x.data.toList) h
    simpa using this
  have e : ∀ l : List Nat, (∀ c ∈ l, c < 256) → (l.map UInt8.ofNat).map UInt8.toNat = l := fun l hl => by
    rw [List.map_map]
    conv => rhs; rw [← List.map_id l]
    refine List.map_congr_left fun n hn => ?_
    simp only [Function.comp, id, UInt8.toNat_ofNat']
    exact Nat.mod_eq_of_lt (hl n hn)
  have := congrArg (List.map UInt8.toNat) h1
  rwa [e a ha, e b hb] at this

theorem conv_run {P : Program} (w : World) (src dst e : TypeId) (hs : P.underlying src = some (.slice e)) (he : P.underlying e = some (.int .u8)) (hd : P.underlying dst = some .string) (B : Nat) (A : Option Addr) (n c : Nat) (bs : List Nat) (hx : Rd w B A n (bv bs)) :
    (convert src dst (.slice A n c)).run P w = .ok (.string (strOf bs)) w := by
  have hl : bs.length = n := by simpa [bv] using hx.1
  rcases Nat.eq_zero_or_pos n with h0 | h0
  · subst h0
    have : bs = [] := List.eq_nil_of_length_eq_zero hl
    subst this
    cases A with
    | none => simp [convert, run_underlying hs, run_underlying hd, run_underlying he, Conv.bytesToString, strOf]; rfl
    | some a =>
      have := run_bytesToString (P := P) w a 0 c [] (by simp [loadCells, loadCellsFrom])
      simp only [convert, Sem.run_bind, run_underlying hs, run_underlying hd, Result.andThen_ok, run_underlying he, this]
      rfl
  · obtain ⟨b, off, rfl, _, hc⟩ := hx.2 h0
    have hld := run_loadCells_list (P := P) w ⟨b, off, none⟩ (bv bs) (fun j u hu => by rw [Addr.add_lit]; exact hc j u hu)
    rw [show (bv bs).length = n from hx.1] at hld
    have e1 : bv bs = (bs.map (fun b : Nat => (b : Int))).map (Value.int .u8) := by simp [bv]
    rw [e1] at hld
    have := run_bytesToString (P := P) w ⟨b, off, none⟩ n c _ hld
    rw [Am.fold_push] at this
    simp only [convert, Sem.run_bind, run_underlying hs, run_underlying hd, Result.andThen_ok, run_underlying he, this]
    congr 3
    simp [ByteArray.empty, ByteArray.emptyWithCapacity, Function.comp_def]
    rfl

theorem bytes_of (zs : List Int) (h : ∀ n ∈ zs, (Lit.int .u8 n).wf = true) : ∃ bs : List Nat, zs = bs.map (fun b : Nat => (b : Int)) ∧ ∀ c ∈ bs, c < 256 := by
  refine ⟨zs.map Int.toNat, ?_, fun c hc => ?_⟩
  · rw [List.map_map]
    conv => lhs; rw [← List.map_id zs]
    refine List.map_congr_left fun n hn => ?_
    have := bounds_u8 (h n hn)
    simp only [id, Function.comp]
    omega
  · rw [List.mem_map] at hc
    obtain ⟨n, hn, rfl⟩ := hc
    have := bounds_u8 (h n hn)
    omega

/-- What the walks are told of an argument of type []byte. -/
structure IsBytes (W : World) (A : Option Addr) (cap : Nat) (bs : List Nat) : Prop where
  rd : Rd W W.heap.size A bs.length (bv bs)
  lt : ∀ c ∈ bs, c < 256
  cap : bs.length ≤ cap
  reach : bs.length ≤ 140737488351232

theorem open_bytes {H : Type} {enc : TypeId × Value → H} {W : World} {base : Nat} {v : Value} {d : DataW H} {p : List MemPlace} {ts : List TypeId} {ds : List (DataW H)} (hval : Value.okWide Try.prog W .any base 30 v) (h : DataW.Trod enc Try.prog W 0 (fun _ => true) true 30 v d p)
    (hs : (DataW.weightsEach Try.prog ts ds).all (· ≤ reachBytes) = true) (j : Nat) (hj : ts[j]? = some 30) (hd : ds[j]? = some d) : ∃ A cap bs, v = .slice A bs.length cap ∧ IsBytes W A cap bs := by
  obtain ⟨A, cap, zs, rfl, h1, h2, h3, h4⟩ := open_nums Try.underlying30 Try.underlying5 (by kernel_rfl) hval h
  obtain ⟨bs, rfl, hb⟩ := bytes_of zs h2
  refine ⟨A, cap, bs, by simp, ⟨by simpa [bv, Function.comp_def] using h3, hb, by simpa using h1, ?_⟩⟩
  rcases h4 with ⟨_, h4⟩ | ⟨es, sp, rfl, h4⟩
  · have : bs = [] := by simpa using h4
    subst this; simp
  · have := sized_slice hs hj hd Try.underlying30
    rw [show Try.prog.bytesOf 5 = 1 by kernel_rfl] at this
    unfold reachBytes at this
    simp only [List.length_map] at h4
    omega

theorem infoB : (Try.prog.info? 5).map (fun i => (i.zero, i.size, i.bytes)) = some (some (.int .u8 0), 1, 1) := by kernel_rfl

set_option maxHeartbeats 1000000 in
theorem few_any (bs : List Nat) (B : Nat) (A : Option Addr) (cap n : Nat) (w : World) (hx : Rd w B A bs.length (bv bs)) (hB : B ≤ w.heap.size) (hn : bs.length ≤ cap) (hm : bs.length ≤ 140737488355328) :
    Calls Try.prog 57 #[.slice A bs.length cap, .int .i64 (n : Int)] w fun e w' => ∃ v', e = .returned v' ∧ w'.ownsRow w.heap.size 5 1 v' (bs.take n).length (bv (bs.take n)) ∧ Below w.heap.size w w' := by
  have HX := Lib.hid hx
  obtain ⟨i0, hi, hz0, hz1, hz2⟩ := info_parts infoB
  have HI := Lib.hid (And.intro hi (And.intro hz0 (And.intro hz1 hz2)))
  clear hx hi hz0 hz1 hz2
  by_cases hl : n < bs.length
  · have hli : (n : Int) < (bs.length : Int) := by omega
    have hlen : (bs.take n).length = n := by rw [List.length_take]; omega
    obtain ⟨b, off, hA, _, _⟩ := HX.out.2 (by omega)
    subst hA
    have HH : Hid (Rd w B (some ⟨b, off, none⟩) (n * 1) (bv (bs.take n))) := by
      have := HX.out.head n (by omega)
      rw [bv_take] at this
      rw [Nat.mul_one]
      exact this
    rw [hlen]
    clear hlen
    have hnc : (n : Int) ≤ (cap : Int) := by omega
    go_enter Try.func57, Try.ntmps57
    go_wp2_with (at_builtin; refine wpList_app _ rfl _ _ 30 rfl w.heap.size 5 i0 (.int .u8 0) 1 1 Try.underlying30 HI.out.1 HI.out.2.1 HI.out.2.2.1 HI.out.2.2.2 rfl (by decide) (.slice (some ⟨w.heap.size, 0, none⟩) 0 0) 0 [] rfl (own_new w #[] 5 1 0 _ _ rfl rfl (by unfold maxLen; omega) (Nat.le_refl _)) B (some ⟨b, off, none⟩) n cap (bv (bs.take n)) rfl (HH.out.below ((Below.refl _ _).alloc (Nat.le_refl _) _) hB) (ones_bv _) (by unfold maxLen; omega) (by omega) (by simp) ?_)
    intro v1 w1 hown1 hgrow1
    have HB1 : Hid (Below w.heap.size w w1) := ((Below.refl _ _).alloc (Nat.le_refl _) _).grown hgrow1 (by simp) (fun j hj => by simp [Value.ownBlock] at hj; omega)
    try simp only [Nat.zero_add, List.nil_append] at hown1
    have HO := Lib.hid hown1
    clear hown1 hgrow1
    go_wp2
    go_ret
    exact ⟨_, rfl, HO.out, HB1.out⟩
  · have hli : ¬ (n : Int) < (bs.length : Int) := by omega
    have hd : decide (n < bs.length) = false := by simpa using hl
    have ht : bs.take n = bs := List.take_of_length_le (by omega)
    rw [ht]
    clear ht
    have HH : Hid (Rd w B A (bs.length * 1) (bv bs)) := by show Rd _ _ _ _ _; rw [Nat.mul_one]; exact HX.out
    go_enter Try.func57, Try.ntmps57
    go_wp2_with (at_builtin; refine wpList_app _ rfl _ _ 30 rfl w.heap.size 5 i0 (.int .u8 0) 1 1 Try.underlying30 HI.out.1 HI.out.2.1 HI.out.2.2.1 HI.out.2.2.2 rfl (by decide) (.slice (some ⟨w.heap.size, 0, none⟩) 0 0) 0 [] rfl (own_new w #[] 5 1 0 _ _ rfl rfl (by unfold maxLen; omega) (Nat.le_refl _)) B A bs.length cap (bv bs) rfl (HH.out.below ((Below.refl _ _).alloc (Nat.le_refl _) _) hB) (ones_bv _) (by unfold maxLen; omega) (by omega) (by simp) ?_)
    intro v1 w1 hown1 hgrow1
    have HB1 : Hid (Below w.heap.size w w1) := ((Below.refl _ _).alloc (Nat.le_refl _) _).grown hgrow1 (by simp) (fun j hj => by simp [Value.ownBlock] at hj; omega)
    try simp only [Nat.zero_add, List.nil_append] at hown1
    have HO := Lib.hid hown1
    clear hown1 hgrow1
    go_wp2
    go_ret
    exact ⟨_, rfl, HO.out, HB1.out⟩
end Go.Proofs.Ytcglhoochmfmiaa
