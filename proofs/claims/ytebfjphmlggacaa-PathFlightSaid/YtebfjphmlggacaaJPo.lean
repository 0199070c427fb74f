/- The ledger's Oldest: a contract. Conditions: as each theorem lists them. -/
import Derived.Test.YtebfjphmlggacaaJLg
import Derived.Deep.DeepCutAuto
import Derived.Deep.CutBlock
set_option linter.unusedSimpArgs false
set_option linter.unusedVariables false

namespace Go.Proofs.Ytebfjphmlggacaa.Ld
open Go Go.RowKit Go.Proofs.Ytebfjphmlggacaa Go.Proofs.Ytebfjphmlggacaa.Sp

/-- When the first one was sent that elicits. -/
def oldF (ks : List Pk) : Int × Bool := match ks.find? (·.el) with
  | some k => (k.at', true)
  | none => (0, false)
set_option maxRecDepth 100000 in
set_option maxHeartbeats 4000000 in
theorem oldest_any {w : World} {lo hi p o : Nat} {T : TypeId} {cur : Array Value} {os : List (Option Pk)} {fl next behind : Nat} (h : LedIn w lo hi p o T cur os fl next behind) (hn : next ≤ 1800000000000) :
    Calls Try.prog 34 #[.pointer (some ⟨p, o, none⟩)] w fun e w' => e = .returned (.tuple #[.int .i64 (oldF (outs os)).1, .bool (oldF (outs os)).2]) ∧ w' = w := by
  obtain ⟨m, hm⟩ : ∃ m, Hid (os.length = m) := ⟨_, rfl⟩
  have hmn : m ≤ 1800000000000 := by have := h.len; have := hm.out; omega
  have hmI : (m : Int) ≤ 1800000000000 := by omega
  obtain ⟨A, c, hA, hR⟩ := h.row
  have hc0 := cell_slot h.hp hA
  rw [hm.out] at hc0
  have hmc : m ≤ c := by have := hR.1; have := hm.out; omega
  have hmcI : (m : Int) ≤ (c : Int) := by omega
  have HR := Lib.hid hR
  clear h hA hR
  go_enter Try.func34, Try.ntmps34
  go_wp2_with fail
  go_loopw [11] (fun i wr => ∃ j : Nat, j ≤ m ∧ i = .int .i64 (j : Int) ∧ Hid ((outs (os.take j)).find? (·.el) = none) ∧ wr = w) (fun i _ => m - (intOf i).toNat)
  case atStart => exact ⟨0, Nat.zero_le _, rfl, rfl, rfl⟩
  case round =>
    obtain ⟨j, hj, rfl, HF, rfl⟩ := hrel
    by_cases hlt : j < m
    · have hltI : (j : Int) < (m : Int) := by omega
      obtain ⟨g', off, row, e, hlo, hg', hrow, hsz, hcs⟩ : ∃ g off row, A = some ⟨g, off, none⟩ ∧ lo ≤ g ∧ g < hi ∧ wr.heap[g]? = some (.cells row 82 (0, 0)) ∧ off + c ≤ row.size ∧ ∀ i u, os[i]? = some u → ∃ v, row[off + i]? = some v ∧ PtrOk wr lo hi v u := by
        rcases HR.out.2.2 with ⟨_, e⟩ | h
        · omega
        · exact h
      subst e
      obtain ⟨u, hu⟩ : ∃ u, os[j]? = some u := ⟨_, List.getElem?_eq_getElem (by rw [hm.out]; exact hlt)⟩
      obtain ⟨v, hv, hp⟩ := hcs j u hu
      have hcv : wr.cell? ⟨g', off + j, none⟩ = some v := cell_slot hrow hv
      have HT : Hid (os.take (j + 1) = os.take j ++ [u]) := by show _ = _; rw [List.take_add_one, hu]; rfl
      have HD : Hid (os = os.take (j + 1) ++ os.drop (j + 1)) := (List.take_append_drop _ _).symm
      clear hcs hv hrow hsz hlo hg' hu HR
      cases u with
      | none =>
        have hv : v = .pointer none := hp
        subst hv
        have HN' : Hid ((outs (os.take (j + 1))).find? (·.el) = none) := by
          show _ = _
          rw [HT.out, outs_app, List.find?_append, HF.out]
          rfl
        clear hp HF HT HD
        go_wp2_with fail
        refine ⟨⟨j + 1, by omega, by go_num, HN', trivial⟩, ?_⟩
        simp [intOf]; omega
      | some x =>
        obtain ⟨b, e, hb1, hb2, hb3⟩ := hp
        subst e
        have hx1 : wr.cell? ⟨b, 1, none⟩ = some (.int .i64 x.at') := cell_slot hb3 rfl
        have hx2 : wr.cell? ⟨b, 2, none⟩ = some (.bool x.el) := cell_slot hb3 rfl
        clear hb1 hb2 hb3
        obtain ⟨el, hel⟩ : ∃ z, x.el = z := ⟨_, rfl⟩
        rw [hel] at hx2
        cases el
        · have HN' : Hid ((outs (os.take (j + 1))).find? (·.el) = none) := by
            show _ = _
            rw [HT.out, outs_app, List.find?_append, HF.out]
            simp [outs, hel]
          clear HF HT HD hel
          go_wp2_with fail
          refine ⟨⟨j + 1, by omega, by go_num, HN', trivial⟩, ?_⟩
          simp [intOf]; omega
        · have HO : Hid (oldF (outs os) = (x.at', true)) := by
            show _ = _
            unfold oldF
            rw [HD.out, HT.out, outs_app, outs_app, List.find?_append, List.find?_append, HF.out]
            simp [outs, hel]
          clear HF HT HD hel
          go_wp2_with fail
          first | go_ret2 | go_ret
          exact ⟨by rw [HO.out]; rfl, rfl⟩
    · have hltI : ¬ (j : Int) < (m : Int) := by omega
      obtain rfl : j = m := by omega
      have HO : Hid (oldF (outs os) = (0, false)) := by
        have h := HF.out
        rw [List.take_of_length_le (by have := hm.out; omega)] at h
        show _ = _
        unfold oldF
        rw [h]
      clear HF
      go_wp2_with fail
      first | go_ret2 | go_ret
      exact ⟨by rw [HO.out]; rfl, rfl⟩
theorem oldest_led {w : World} {lo p o : Nat} {T : TypeId} {cur : Array Value} {ks : List Pk} {next behind : Nat} (h : Led w lo p o T cur ks next behind) (hn : next ≤ 1800000000000) :
    Calls Try.prog 34 #[.pointer (some ⟨p, o, none⟩)] w fun e w' => e = .returned (.tuple #[.int .i64 (oldF ks).1, .bool (oldF ks).2]) ∧ w' = w := by
  obtain ⟨os, h1, h2⟩ := h.led
  rw [← h2]
  exact oldest_any h1 hn
end Go.Proofs.Ytebfjphmlggacaa.Ld
