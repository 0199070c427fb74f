/- Of: a contract. Conditions: as each theorem lists them. -/
import Derived.Test.YtoglpjgmnojdjaaS7t
set_option linter.unusedSimpArgs false
set_option linter.unusedVariables false
namespace Go.Proofs.Ytoglpjgmnojdjaa
open Go Go.RowKit

def mayN (v : Int) : Bool := decide (0 ≤ v) && decide (v ≤ 4611686018427387903)
def runsF (l : List Int) : List (Int × Int) := (l.filter mayN).map fun v => (v, v + 1)
theorem runsF_snoc (l : List Int) (v : Int) : runsF (l ++ [v]) = runsF l ++ (if mayN v = true then [(v, v + 1)] else []) := by
  unfold runsF
  rw [List.filter_append, List.map_append]
  cases h : mayN v <;> simp [List.filter_cons, h]
theorem runsF_len (l : List Int) : (runsF l).length ≤ l.length := by unfold runsF; rw [List.length_map]; exact List.length_filter_le _ _
theorem runsF_ok (l : List Int) : ∀ r ∈ runsF l, RunOk r := fun r hr => by
  unfold runsF at hr
  rw [List.mem_map] at hr
  obtain ⟨v, hv, rfl⟩ := hr
  rw [List.mem_filter] at hv
  have := hv.2
  unfold mayN at this
  simp at this
  refine ⟨this.1, ?_, ?_⟩ <;> show _ <;> simp <;> omega
theorem runsF_any (l : List Int) (n : Int) : (runsF l).any (inRun n) = (mayN n && l.contains n) := by
  unfold runsF
  rw [Bool.eq_iff_iff, List.any_eq_true]
  constructor
  · rintro ⟨r, hr, h⟩
    rw [List.mem_map] at hr
    obtain ⟨v, hv, rfl⟩ := hr
    rw [List.mem_filter] at hv
    unfold inRun at h
    simp at h
    obtain rfl : n = v := by omega
    simp [hv.2, hv.1]
  · intro h
    rw [Bool.and_eq_true] at h
    refine ⟨(n, n + 1), List.mem_map.2 ⟨n, List.mem_filter.2 ⟨by simpa using h.2, h.1⟩, rfl⟩, ?_⟩
    unfold inRun
    simp
    omega

def OfP (l : List Int) (w : World) (e : Ending) (w' : World) : Prop :=
  ∃ es A' c', e = .returned (.agg #[.slice A' es.length c']) ∧ SetVal w' es A' c' ∧ (∀ n, mem es n = (mayN n && l.contains n)) ∧ es.length ≤ 2 * l.length ∧ Below w.heap.size w w' ∧ FreshT w w' A' es c'

set_option maxHeartbeats 4000000 in
theorem of_any (l : List Int) (B : Nat) (A : Option Addr) (c : Nat) (w : World) (hx : Rd w B A l.length (ints l)) (hB : B ≤ w.heap.size) (hc : l.length ≤ c) (hm : l.length ≤ 17592186044416) (hE : (∀ v ∈ l, v ≤ 999) ∨ l.length ≤ 8796093022207) (hlt : ∀ v ∈ l, -9223372036854775808 ≤ v ∧ v ≤ 9223372036854775807) :
    Calls Try.prog 8 #[.slice A l.length c] w fun e w' => OfP l w e w' := by
  have HX := Lib.hid hx
  have HLt := Lib.hid hlt
  obtain ⟨m, hmm⟩ : ∃ m, Hid (l.length = m) := ⟨_, rfl⟩
  rw [hmm.out] at hc hm HX ⊢
  have hmI : (m : Int) ≤ 17592186044416 := by omega
  have HE := Lib.hid hE
  have hmcI : (m : Int) ≤ (c : Int) := by omega
  obtain ⟨i0, hi, hz0, hz1, hz2⟩ := info_parts infoP
  have HI := Lib.hid (And.intro hi (And.intro hz0 (And.intro hz1 hz2)))
  have hmk := fun W => run_make (P := Try.prog) W 30 57 i0 (.agg #[.int .i64 0, .int .i64 0]) Try.underlying30 hi hz0 .i64 .i64 0 (m : Int) (by omega) (by omega) (by rw [hz2]; omega) (by omega)
  simp only [hz1, Int.toNat_natCast, Int.toNat_zero] at hmk
  clear hi hz0 hz1 hz2 hx hlt hE
  go_enter Try.func8, Try.ntmps8
  go_wp2_with fail
  obtain ⟨w1, hw1⟩ : ∃ w1, (w.alloc (.cells #[.slice none 0 0] 27)) = w1 := ⟨_, rfl⟩
  rw [hw1]
  have HC : Hid (w1.heap[w.heap.size]? = some (.cells #[.slice none 0 0] 27 (0, 0))) := by rw [← hw1]; exact heap_alloc_new w _
  have HB1 : Hid (Below w.heap.size w w1) := by rw [← hw1]; exact (Below.refl _ _).alloc (Nat.le_refl _) _
  have HS1 : Hid (w1.heap.size = w.heap.size + 1) := by show _ = _; rw [← hw1]; simp
  clear hw1
  have hown0 : Hid ((w1.alloc (Obj.cells (madeCells #[Value.int IntKind.i64 0, Value.int IntKind.i64 0] (m * 2)) 57)).ownsRow (w.heap.size + 1) 57 2 (.slice (some ⟨w.heap.size + 1, 0, none⟩) 0 m) 0 []) := by
    have := World.ownsRow_made (base := w1.heap.size) (e := 57) (size := 2) w1 (madeCells #[Value.int IntKind.i64 0, Value.int IntKind.i64 0] (m * 2)) m (Nat.le_refl _) (by unfold maxLen; omega) (by rw [size_madeCells])
    rw [HS1.out] at this
    exact this
  have HB2 : Hid (Below (w.heap.size + 1) w1 (w1.alloc (Obj.cells (madeCells #[Value.int IntKind.i64 0, Value.int IntKind.i64 0] (m * 2)) 57))) := (Below.refl _ _).alloc (by rw [HS1.out]; exact Nat.le_refl _) _
  go_loopw [3, 11] (fun v i wr => ∃ k K : Nat, k ≤ m ∧ i = .int .i64 k ∧ K ≤ k ∧ v = .slice (some ⟨w.heap.size + 1, 0, none⟩) K m ∧ Hid (K = (runsF (l.take k)).length ∧ wr.ownsRow (w.heap.size + 1) 57 2 v K (ints (pl (runsF (l.take k)))) ∧ Below (w.heap.size + 1) w1 wr)) (fun _ i _ => m - (intOf i).toNat)
  case atStart => exact ⟨0, 0, Nat.zero_le _, rfl, Nat.zero_le _, rfl, rfl, hown0.out, HB2.out⟩
  case round =>
    obtain ⟨k, K, hk, rfl, hK, rfl, HK⟩ := hrel
    clear hown0 HB2
    by_cases hlt : k < m
    · have hlti : (k : Int) < (m : Int) := by omega
      obtain ⟨b, off, hA, hbn, hcs⟩ := HX.out.2 (by omega)
      subst hA
      have hk' : k < l.length := by rw [hmm.out]; exact hlt
      obtain ⟨x, hxv⟩ : ∃ x, Hid (l[k]'hk' = x) := ⟨_, rfl⟩
      have hcx : wr.cell? ⟨b, off + k, none⟩ = some (.int .i64 x) := by
        rw [HK.out.2.2.cell (p := ⟨b, off + k, none⟩) (show b < w.heap.size + 1 by omega), HB1.out.cell (p := ⟨b, off + k, none⟩) (show b < w.heap.size by omega), hcs k _ (ints_get _ _ hk')]
        simp [List.getD, hk', hxv.out]
      have hxr := HLt.out _ (List.getElem_mem hk')
      rw [hxv.out] at hxr
      obtain ⟨hx1, hx2⟩ := hxr
      have HSn : Hid (runsF (l.take (k + 1)) = runsF (l.take k) ++ (if mayN x = true then [(x, x + 1)] else [])) := by show _ = _; rw [List.take_succ_eq_append_getElem hk', runsF_snoc, hxv.out]
      clear hcs
      by_cases h1 : 0 ≤ x
      · by_cases h2 : x ≤ 4611686018427387903
        · have hmay : mayN x = true := by unfold mayN; simp [h1, h2]
          rw [hmay, if_pos rfl] at HSn
          clear hmay
          have HSW : Hid (w.heap.size + 1 ≤ wr.heap.size) := by have := HK.out.2.2.size; have := HS1.out; show _ ≤ _; omega
          have hd1 : Hid (Rd (wr.alloc (.cells #[.int .i64 x, .int .i64 (x + 1)] 57)) (wr.heap.size + 1) (some ⟨wr.heap.size, 0, none⟩) (1 * 2) (ints [x, x + 1])) := rd_new _ _ _ _ _ _ _ rfl (by omega) rfl rfl
          have hd2 : Hid (K + 1 ≤ m) := by show _ ≤ _; omega
          have hd4 : Hid (w.heap.size + 1 ≤ (wr.alloc (.cells #[.int .i64 x, .int .i64 (x + 1)] 57)).heap.size) := by have := HSW.out; show _ ≤ _; simp only [World.size_alloc]; omega
          have hd5 : Hid (∀ j u, (ints [x, x + 1])[j]? = some u → (wr.alloc (.cells #[.int .i64 x, .int .i64 (x + 1)] 57)).cell? ((⟨wr.heap.size, 0, none⟩ : Addr).add j) = some u) := fun j u hu => by
            obtain ⟨b', off', e', _, hc'⟩ := hd1.out.2 (by omega)
            cases e'
            rw [Addr.add_lit]; exact hc' j u hu
          go_wp2_with (at_builtin; refine wpList_append_fits _ rfl (.tmp 21) (.tmp 26) 30 rfl (w.heap.size + 1) 57 i0 2 Try.underlying30 HI.out.1 HI.out.2.2.1 (w.heap.size + 1) K m (ints (pl (runsF (l.take k)))) rfl (HK.out.2.1.alloc _) ⟨wr.heap.size, 0, none⟩ 1 1 (ints [x, x + 1]) rfl rfl hd5.out (ones_ints _) hd2.out ?_)
          intro w5 hown5 hgrow5
          have HN : Hid (K + 1 = (runsF (l.take (k + 1))).length ∧ w5.ownsRow (w.heap.size + 1) 57 2 (.slice (some ⟨w.heap.size + 1, 0, none⟩) (K + 1) m) (K + 1) (ints (pl (runsF (l.take (k + 1))))) ∧ Below (w.heap.size + 1) w1 w5) := by
            rw [HSn.out]
            refine ⟨by rw [List.length_append, ← HK.out.1]; rfl, ?_, (HK.out.2.2.alloc HSW.out _).grown hgrow5 hd4.out (fun j hj => by cases hj; exact Nat.le_refl _)⟩
            rw [pl_app, ints_app]; exact hown5
          clear hown5 hgrow5 hcx
          go_wp2_with fail
          go_roundw
          case rel => exact ⟨k + 1, K + 1, by omega, by go_num, by omega, rfl, HN⟩
          case measure => simp [intOf]; omega
        · have hmay : mayN x = false := by unfold mayN; simp [h2]
          rw [hmay, if_neg (by decide), List.append_nil] at HSn
          clear hmay
          rw [← HSn.out] at HK
          go_wp2_with fail
          go_roundw
          case rel => exact ⟨k + 1, K, by omega, by go_num, by omega, rfl, HK⟩
          case measure => simp [intOf]; omega
      · have hmay : mayN x = false := by unfold mayN; simp [h1]
        rw [hmay, if_neg (by decide), List.append_nil] at HSn
        clear hmay
        rw [← HSn.out] at HK
        go_wp2_with fail
        go_roundw
        case rel => exact ⟨k + 1, K, by omega, by go_num, by omega, rfl, HK⟩
        case measure => simp [intOf]; omega
    · have hlti : ¬ (k : Int) < (m : Int) := by omega
      obtain rfl : k = m := by omega
      have e : l.take k = l := List.take_of_length_le (by rw [hmm.out]; exact Nat.le_refl _)
      rw [e] at HK
      clear e
      obtain rfl : K = (runsF l).length := HK.out.1
      have HG := Lib.hid (gather_any (runsF l) (w.heap.size + 1) _ _ wr HK.out.2.1 (by have := HK.out.2.2.size; have := HS1.out; omega) (runsF_ok l) (by omega) (by
        rcases HE.out with h | h
        · left
          intro r hr
          unfold runsF at hr
          rw [List.mem_map] at hr
          obtain ⟨v, hv, rfl⟩ := hr
          have := h v ((List.mem_filter.1 hv).1)
          show v + 1 ≤ _
          omega
        · right
          have := runsF_len l
          omega))
      go_wp2_with fail
      refine HG.out.mono ?_
      rintro e w7 ⟨es, A7, c7, rfl, hsv, hmem, hlen, hb7, hfr⟩
      have HV := Lib.hid (And.intro hsv (And.intro hmem (And.intro hlen hb7)))
      have HFr := Lib.hid hfr
      clear hfr
      have hhc : w7.heap[w.heap.size]? = some (.cells #[.slice none 0 0] 27 (0, 0)) := (hb7.block _ (by omega)).trans ((HK.out.2.2.block _ (by omega)).trans HC.out)
      have hcw : w7.cell? ⟨w.heap.size, 0, none⟩ = some (.slice none 0 0) := cell_of_one hhc
      have hfw : w7.frozen? ⟨w.heap.size, 0, none⟩ = false := free_of_one hhc
      have HHC := Lib.hid hhc
      clear hhc hsv hmem hlen hb7
      go_wp2_with fail
      refine bodyPost_ret (v := .agg #[.slice A7 es.length c7]) (by simp [results, Try.results8, go_sem, one_setCell HHC.out, cell_of_one (one_setCell HHC.out)]) rfl ?_
      obtain ⟨⟨hok, hc7, hok7, hrd7⟩, hmem, hlen, hb7⟩ := HV.out
      refine ⟨es, A7, c7, rfl, ⟨hok, hc7, hok7, ?_⟩, fun n => by rw [hmem, runsF_any], by have := runsF_len l; omega, ?_, ⟨fun a ha => by have := HFr.out.1 a ha; have := HK.out.2.2.size; have := HS1.out; omega, ownsRow_setCell_other HFr.out.2 (fun e => by
        cases hA7 : A7 with
        | none => rw [hA7] at e; simp [Value.ownBlock] at e
        | some a => rw [hA7] at e; simp [Value.ownBlock] at e; have := HFr.out.1 a hA7; have := HK.out.2.2.size; have := HS1.out; omega) _⟩⟩
      · have hg : w7.grownBy (w7.setCell ⟨w.heap.size, 0, none⟩ (.slice A7 es.length c7)) (some w.heap.size) := grown_of (Below.refl _ _) _ _
        exact (hrd7.but (Nat.le_refl _) hg HHC.out).more hg.size
      · exact (HB1.out.trans ((HK.out.2.2.trans hb7).mono (by omega))).setCell (Nat.le_refl _) _
end Go.Proofs.Ytoglpjgmnojdjaa
