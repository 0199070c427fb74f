/- Union of package spans (laid by ak/port3.py). Conditions: as each theorem lists them. -/
import Derived.Test.YtebfjphmlggacaaJSe
set_option linter.unusedSimpArgs false
set_option linter.unusedVariables false

namespace Go.Proofs.Ytebfjphmlggacaa.Sp
open Go Go.RowKit

/-- Sets as values: edges, where they lie, their room. -/
def setVals (ss : List (List Int × Option Addr × Nat)) : List Value := ss.map fun s => .slice s.2.1 s.1.length s.2.2
def allRuns (ss : List (List Int × Option Addr × Nat)) : List (Int × Int) := ss.flatMap fun s => prs s.1
theorem allRuns_snoc (ss : List (List Int × Option Addr × Nat)) (s : List Int × Option Addr × Nat) : allRuns (ss ++ [s]) = allRuns ss ++ prs s.1 := by simp [allRuns]
theorem prs_len : ∀ es : List Int, es.length % 2 = 0 → (prs es).length = es.length / 2
  | [], _ => rfl
  | [a], h => by simp at h
  | a :: b :: r, h => by
    show (prs r).length + 1 = _
    rw [prs_len r (by simp at h; omega)]
    simp; omega
theorem allRuns_take (ss : List (List Int × Option Addr × Nat)) (k : Nat) : (allRuns (ss.take k)).length ≤ (allRuns ss).length := by
  have e := congrArg (fun l => (allRuns l).length) (List.take_append_drop k ss)
  simp only [allRuns, List.flatMap_append, List.length_append] at e ⊢
  omega
def SetsOk (w : World) (B : Nat) (ss : List (List Int × Option Addr × Nat)) : Prop := ∀ s ∈ ss, Ok s.1 ∧ s.1.length ≤ s.2.2 ∧ s.1.length * 8 ≤ 140737488355328 ∧ Rd w B s.2.1 s.1.length (ints s.1)

def UnionP (ss : List (List Int × Option Addr × Nat)) (w : World) (e : Ending) (w' : World) : Prop :=
  ∃ es A' c', e = .returned (.agg #[.slice A' es.length c']) ∧ SetVal w' es A' c' ∧ (∀ n, mem es n = ss.any fun s => mem s.1 n) ∧ es.length ≤ 2 * (allRuns ss).length ∧ Below w.heap.size w w'

set_option maxHeartbeats 4000000 in
theorem union_any (ss : List (List Int × Option Addr × Nat)) (B : Nat) (A : Option Addr) (c : Nat) (w : World) (hx : Rd w B A ss.length (setVals ss)) (hB : B ≤ w.heap.size) (hc : ss.length ≤ c) (hm : ss.length ≤ 8796093022208) (hs : SetsOk w B ss) (htot : (allRuns ss).length ≤ 8796093022207) :
    Calls Try.prog 41 #[.slice A ss.length c] w fun e w' => UnionP ss w e w' := by
  have HX := Lib.hid hx
  have HSs := Lib.hid hs
  obtain ⟨m, hmm⟩ : ∃ m, Hid (ss.length = m) := ⟨_, rfl⟩
  rw [hmm.out] at hc hm HX ⊢
  have hmI : (m : Int) ≤ 8796093022208 := by omega
  have hmcI : (m : Int) ≤ (c : Int) := by omega
  obtain ⟨i0, hi, hz0, hz1, hz2⟩ := info_parts infoP
  have HI := Lib.hid (And.intro hi (And.intro hz0 (And.intro hz1 hz2)))
  have HTot := Lib.hid htot
  clear hi hz0 hz1 hz2 hx hs htot
  go_enter Try.func41, Try.ntmps41
  go_wp2_with fail
  obtain ⟨w1, hw1⟩ : ∃ w1, (w.alloc (.cells #[.slice none 0 0] 87)) = w1 := ⟨_, rfl⟩
  rw [hw1]
  have HC : Hid (w1.heap[w.heap.size]? = some (.cells #[.slice none 0 0] 87 (0, 0))) := by rw [← hw1]; exact heap_alloc_new w _
  have HB1 : Hid (Below w.heap.size w w1) := by rw [← hw1]; exact (Below.refl _ _).alloc (Nat.le_refl _) _
  have HS1 : Hid (w1.heap.size = w.heap.size + 1) := by show _ = _; rw [← hw1]; simp
  clear hw1
  go_loopw [3, 7] (fun v i wr => ∃ k K : Nat, k ≤ m ∧ i = .int .i64 k ∧ K ≤ 8796093022207 ∧ (∃ A3 c3, v = .slice A3 K c3) ∧ Hid (K = (allRuns (ss.take k)).length ∧ wr.ownsRow (w.heap.size + 1) 29 2 v K (ints (pl (allRuns (ss.take k)))) ∧ Below (w.heap.size + 1) w1 wr)) (fun _ i _ => m - (intOf i).toNat)
  case atStart => exact ⟨0, 0, Nat.zero_le _, rfl, by omega, ⟨_, _, rfl⟩, rfl, own_nil _ _ _ _, Below.refl _ _⟩
  case round =>
    obtain ⟨k, K, hk, rfl, hK, ⟨A3, c3, rfl⟩, HK⟩ := hrel
    by_cases hlt : k < m
    · have hlti : (k : Int) < (m : Int) := by omega
      obtain ⟨b, off, hA, hbn, hcs⟩ := HX.out.2 (by omega)
      subst hA
      have hk' : k < ss.length := by rw [hmm.out]; exact hlt
      rcases hsv : ss[k]'hk' with ⟨es, Ai, ci⟩
      have hsk := HSs.out _ (List.getElem_mem hk')
      rw [hsv] at hsk
      obtain ⟨hok, hci, hlm, hri⟩ := hsk
      have HSW : Hid (w.heap.size + 1 ≤ wr.heap.size) := by have := HK.out.2.2.size; have := HS1.out; show _ ≤ _; omega
      have hbw : Below w.heap.size w wr := HB1.out.trans (HK.out.2.2.mono (by omega))
      have hcx : wr.cell? ⟨b, off + k, none⟩ = some (.slice Ai es.length ci) := by
        rw [hbw.cell (p := ⟨b, off + k, none⟩) (show b < w.heap.size by omega), hcs k (.slice Ai es.length ci) (by simp [setVals, hk', hsv])]
      have HSp := Lib.hid (spans_any es wr.heap.size b (off + k) Ai ci wr hcx ((hri.below hbw hB).more (by have := HSW.out; omega)) (Nat.le_refl _) hok.2.1 hlm hci)
      have HSn : Hid (allRuns (ss.take (k + 1)) = allRuns (ss.take k) ++ prs es) := by show _ = _; rw [List.take_succ_eq_append_getElem hk', allRuns_snoc, hsv]
      have hpl : Hid (pl (prs es) = es ∧ (prs es).length = es.length / 2) := ⟨pl_prs es hok.2.1, prs_len es hok.2.1⟩
      have hKn : Hid (K + es.length / 2 ≤ 8796093022207) := by
        have h1 := allRuns_take ss (k + 1)
        rw [HSn.out, List.length_append, hpl.out.2, ← HK.out.1] at h1
        exact Nat.le_trans h1 HTot.out
      clear hcs hsv hk' hok hci hlm hri hbw hcx
      obtain ⟨n2, hn2⟩ : ∃ n2, Hid (es.length / 2 = n2) := ⟨_, rfl⟩
      rw [hn2.out] at HSp hKn
      have hKb := hKn.out
      go_wp2_with fail
      refine HSp.out.mono ?_
      rintro e w4 ⟨v4, rfl, ho4, hb4⟩
      obtain ⟨A4, c4, e4, hc4, _, _, hrd4⟩ := own_form ho4
      subst e4
      have HR4 := Lib.hid hrd4
      have HB4 := Lib.hid hb4
      clear ho4 hb4 hrd4
      have hd2 : Hid (K + n2 ≤ maxLen) := by show _ ≤ _; unfold maxLen; omega
      have hd3 : Hid ((K + n2) * 16 ≤ 140737488355328) := by show _ ≤ _; omega
      have hd4 : Hid (w.heap.size + 1 ≤ w4.heap.size) := Nat.le_trans HSW.out HB4.out.size
      go_wp2_with (at_builtin; refine wpList_app _ rfl (.tmp 10) (.tmp 14) 26 rfl (w.heap.size + 1) 29 i0 (.agg #[.int .i64 0, .int .i64 0]) 2 16 Try.underlying26 HI.out.1 HI.out.2.1 HI.out.2.2.1 HI.out.2.2.2 rfl (by decide) (.slice A3 K c3) K (ints (pl (allRuns (ss.take k)))) rfl (own_below HK.out.2.1 HB4.out) w4.heap.size A4 n2 c4 (ints es) rfl HR4.out (ones_ints _) hd2.out hd3.out hd4.out ?_)
      intro v5 w5 hown5 hgrow5
      have HN : Hid (K + n2 = (allRuns (ss.take (k + 1))).length ∧ w5.ownsRow (w.heap.size + 1) 29 2 v5 (K + n2) (ints (pl (allRuns (ss.take (k + 1))))) ∧ Below (w.heap.size + 1) w1 w5) := by
        rw [HSn.out]
        refine ⟨by rw [List.length_append, ← HK.out.1, hpl.out.2, hn2.out], ?_, (HK.out.2.2.trans (HB4.out.mono HSW.out)).grown hgrow5 hd4.out (fun j hj => (HK.out.2.1.lt j hj).1)⟩
        rw [pl_app, hpl.out.1, ints_app]; exact hown5
      clear hown5 hgrow5
      obtain ⟨A5, c5, e5, _⟩ := own_form HN.out.2.1
      subst e5
      go_wp2_with fail
      go_roundw
      case rel => exact ⟨k + 1, K + n2, by omega, by go_num, hKn.out, ⟨_, _, rfl⟩, HN⟩
      case measure => simp [intOf]; omega
    · have hlti : ¬ (k : Int) < (m : Int) := by omega
      obtain rfl : k = m := by omega
      have e : ss.take k = ss := List.take_of_length_le (by rw [hmm.out]; exact Nat.le_refl _)
      rw [e] at HK
      clear e
      obtain rfl : K = (allRuns ss).length := HK.out.1
      have hro : ∀ r ∈ allRuns ss, RunOk r := fun r hr => by
        unfold allRuns at hr
        rw [List.mem_flatMap] at hr
        obtain ⟨s, hs, hr⟩ := hr
        exact prs_ok (HSs.out s hs).1 r hr
      have hany : ∀ n, (allRuns ss).any (inRun n) = ss.any fun s => mem s.1 n := fun n => by
        unfold allRuns
        rw [List.any_flatMap, Bool.eq_iff_iff, List.any_eq_true, List.any_eq_true]
        constructor
        · rintro ⟨s, hs, h⟩; exact ⟨s, hs, by rw [mem_prs s.1 (HSs.out s hs).1.1 (HSs.out s hs).1.2.1]; exact h⟩
        · rintro ⟨s, hs, h⟩; exact ⟨s, hs, by rw [← mem_prs s.1 (HSs.out s hs).1.1 (HSs.out s hs).1.2.1]; exact h⟩
      have HAny := Lib.hid hany
      have HG := Lib.hid (gather_any (allRuns ss) (w.heap.size + 1) A3 c3 wr HK.out.2.1 (by have := HK.out.2.2.size; have := HS1.out; omega) hro (by omega) (.inr hK))
      clear hro hany
      go_wp2_with fail
      refine HG.out.mono ?_
      rintro e w7 ⟨es, A7, c7, rfl, hsv, hmem, hlen, hb7, _⟩
      have HV := Lib.hid (And.intro hsv (And.intro hmem (And.intro hlen hb7)))
      have hhc : w7.heap[w.heap.size]? = some (.cells #[.slice none 0 0] 87 (0, 0)) := (hb7.block _ (by omega)).trans ((HK.out.2.2.block _ (by omega)).trans HC.out)
      have hcw : w7.cell? ⟨w.heap.size, 0, none⟩ = some (.slice none 0 0) := cell_of_one hhc
      have hfw : w7.frozen? ⟨w.heap.size, 0, none⟩ = false := free_of_one hhc
      have HHC := Lib.hid hhc
      clear hhc hsv hmem hlen hb7
      go_wp2_with fail
      refine bodyPost_ret (v := .agg #[.slice A7 es.length c7]) (by simp [results, Try.results41, go_sem, one_setCell HHC.out, cell_of_one (one_setCell HHC.out)]) rfl ?_
      obtain ⟨⟨hok, hc7, hok7, hrd7⟩, hmem, hlen, hb7⟩ := HV.out
      refine ⟨es, A7, c7, rfl, ⟨hok, hc7, hok7, ?_⟩, fun n => by rw [hmem, HAny.out], hlen, ?_⟩
      · have hg : w7.grownBy (w7.setCell ⟨w.heap.size, 0, none⟩ (.slice A7 es.length c7)) (some w.heap.size) := grown_of (Below.refl _ _) _ _ _
        exact (rd_cell hrd7 (Nat.le_refl _) hg HHC.out).more hg.size
      · exact (HB1.out.trans ((HK.out.2.2.trans hb7).mono (by omega))).setCell (Nat.le_refl _) _
end Go.Proofs.Ytebfjphmlggacaa.Sp
