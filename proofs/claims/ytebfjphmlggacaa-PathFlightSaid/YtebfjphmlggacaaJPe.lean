/- The path's Probe: a contract. Conditions: as each theorem lists them. -/
import Derived.Test.YtebfjphmlggacaaJPd
import Derived.Test.YtebfjphmlggacaaJPo
set_option linter.unusedSimpArgs false
set_option linter.unusedVariables false

namespace Go.Proofs.Ytebfjphmlggacaa.Pa
open Go Go.RowKit Go.Proofs.Ytebfjphmlggacaa Go.Proofs.Ytebfjphmlggacaa.Sp Go.Proofs.Ytebfjphmlggacaa.Ld

section
variable {w w' : World} {lo p : Nat} {s : Rtt.RS} {kq : List (Pk × List Fq)} {next behind : Nat} {wd : Cg.Win}
theorem PathIn.rising (h : PathIn w lo p s kq next behind wd) : (kq.map (·.1)).Pairwise (fun a b => a.num < b.num) ∧ (∀ x ∈ kq, x.1.num < next) ∧ kq.length ≤ next ∧ behind ≤ next := by
  obtain ⟨cur, h1, h2, h3⟩ := h.cur
  have hr := h2.rising
  have hl := h2.len
  rw [List.length_map] at hl
  exact ⟨hr.1, fun x hx => hr.2 _ (List.mem_map.2 ⟨x, hx, rfl⟩), hl, h2.behind_le⟩
theorem PathIn.sel (h : PathIn w lo p s kq next behind wd) : selK (selB 0 (next : Int) fun _ => true) kq = kq ∧ selK (fun k => !selB 0 (next : Int) (fun _ => true) k) kq = [] := by
  have hr := h.rising.2.1
  constructor
  · refine List.filter_eq_self.2 fun x hx => ?_
    have := hr x hx
    simp [selB, this]
  · refine List.filter_eq_nil_iff.2 fun x hx => ?_
    have := hr x hx
    simp [selB, this]
theorem oldF_range (kq : List (Pk × List Fq)) (hat : ∀ x ∈ kq, -2305843009213693952 ≤ x.1.at' ∧ x.1.at' ≤ 2305843009213693952) : -2305843009213693952 ≤ (oldF (kq.map (·.1))).1 ∧ (oldF (kq.map (·.1))).1 ≤ 2305843009213693952 := by
  unfold oldF
  cases h : (kq.map (·.1)).find? (·.el) with
  | none => simp only; omega
  | some k =>
    obtain ⟨x, hx, rfl⟩ := List.mem_map.1 (List.mem_of_find?_eq_some h)
    exact hat x hx
/-- May it probe? -/
def probeF (s : Rtt.RS) (kq : List (Pk × List Fq)) (now : Int) : Bool := (oldF (kq.map (·.1))).2 && decide ((oldF (kq.map (·.1))).1 ≤ now - Rtt.waitF s)

set_option maxRecDepth 100000 in
set_option maxHeartbeats 4000000 in
theorem probe_path (h : PathIn w lo p s kq next behind wd) (now : Int) (hnow : -2305843009213693952 ≤ now ∧ now ≤ 2305843009213693952) (hat : ∀ x ∈ kq, -2305843009213693952 ≤ x.1.at' ∧ x.1.at' ≤ 2305843009213693952) (hbk : 0 ≤ s.bk ∧ s.bk ≤ 1800000000000) (hn : next ≤ 1800000000000) (htot : (allF kq).length ≤ 1800000000000) :
    Calls Try.prog 17 #[.pointer (some ⟨p, 0, none⟩), .int .i64 now] w fun e w' => (probeF s kq now = false ∧ e = .returned (.tuple #[.slice none 0 0, .bool false]) ∧ ∃ q, w' = w.drewN q) ∨
      (probeF s kq now = true ∧ ∃ A' c', e = .returned (.tuple #[.slice A' (allF kq).length c', .bool true]) ∧ w'.ownsRow w.heap.size 28 9 (.slice A' (allF kq).length c') (allF kq).length (fqs (allF kq)) ∧ (∀ q ∈ allF kq, FqOwn w' lo q) ∧
        PathIn w' lo p (Rtt.back s (s.bk + 1)) [] next behind wd ∧ Moved lo p w w') := by
  obtain ⟨cur, h1, h2, h3⟩ := h.cur
  have HP := Lib.hid h
  have H1 := Lib.hid h1
  have HTOT := Lib.hid htot
  have HN := Lib.hid hn
  have HO := Lib.hid (oldest_led h2 hn)
  have hwb := Rtt.wait_bounds h.good
  have HPR : Hid (probeF s kq now = ((oldF (kq.map (·.1))).2 && decide ((oldF (kq.map (·.1))).1 ≤ now - Rtt.waitF s))) := rfl
  have hor := oldF_range kq hat
  clear hat
  obtain ⟨at', hat⟩ : ∃ x, (oldF (kq.map (·.1))).1 = x := ⟨_, rfl⟩
  obtain ⟨ok, hok⟩ : ∃ x, (oldF (kq.map (·.1))).2 = x := ⟨_, rfl⟩
  obtain ⟨wt, hwt⟩ : ∃ x, Rtt.waitF s = x := ⟨_, rfl⟩
  rw [hat, hok] at HO
  rw [hat] at hor
  obtain ⟨hor1, hor2⟩ := hor
  have HSI := Lib.hid (fun W => since_any at' now W ⟨by omega, by omega⟩ ⟨by omega, by omega⟩)
  rw [hat, hok, hwt] at HPR
  rw [hwt] at hwb
  obtain ⟨hwb1, hwb2⟩ := hwb
  obtain ⟨hnow1, hnow2⟩ := hnow
  obtain ⟨hbk1, hbk2⟩ := hbk
  have HWT : Hid (∀ m, Calls Try.prog 35 #[.pointer (some ⟨p, 0, none⟩)] (w.drewN m) fun e w' => e = .returned (.int .i64 wt) ∧ w' = w.drewN m) := fun m => by
    have := Rtt.wait_any s h.good p 0 _ cur (w.drewN m) ⟨h1.1, h1.2⟩
    rwa [hwt] at this
  obtain ⟨bk, hbk⟩ : ∃ x, s.bk = x := ⟨_, rfl⟩
  have HBK := Lib.hid hbk
  rw [hbk] at hbk1 hbk2
  have hws : IntKind.i64.wrap (now - at') = now - at' := IntWalk.i64_in _ (by omega)
  clear h h1 h2 h3 htot hn hat hok hwt hbk
  cases ok
  · have HF : Hid (probeF s kq now = false) := HPR.out
    go_enter Try.func17, Try.ntmps17
    go_wp2_with fail
    refine HO.out.mono ?_
    rintro e w1 ⟨rfl, hw1⟩
    subst w1
    clear HO
    go_wp2_with fail
    go_quiet (first | (go_at_call 27; exact Calls.quiet_of_same (HSI.out _)) | (go_at_call 35; exact Calls.quiet_of_same (HWT.out _)))
    go_wp2_with fail
    first | go_ret2 | go_ret
    exact .inl ⟨HF.out, rfl, nq, rfl⟩
  · by_cases hlt : now - at' < wt
    · have HF : Hid (probeF s kq now = false) := by
        show _ = _
        rw [HPR.out, decide_eq_false (by omega)]
        rfl
      go_enter Try.func17, Try.ntmps17
      go_wp2_with fail
      refine HO.out.mono ?_
      rintro e w1 ⟨rfl, hw1⟩
      subst w1
      clear HO
      go_wp2_with fail
      go_quiet (first | (go_at_call 27; exact Calls.quiet_of_same (HSI.out _)) | (go_at_call 35; exact Calls.quiet_of_same (HWT.out _)))
      go_wp2_with fail
      first | go_ret2 | go_ret
      exact .inl ⟨HF.out, rfl, nq, rfl⟩
    · have HF : Hid (probeF s kq now = true) := by
        show _ = _
        rw [HPR.out, decide_eq_true (by omega)]
        rfl
      go_enter Try.func17, Try.ntmps17
      go_wp2_with fail
      refine HO.out.mono ?_
      rintro e w1 ⟨rfl, hw1⟩
      subst w1
      clear HO
      go_wp2_with fail
      go_quiet (first | (go_at_call 27; exact Calls.quiet_of_same (HSI.out _)) | (go_at_call 35; exact Calls.quiet_of_same (HWT.out _)))
      obtain ⟨w2, hw2⟩ : ∃ x, w.drewN nq = x := ⟨_, rfl⟩
      have hb2 : Below w.heap.size w w2 := hw2 ▸ ⟨rfl, rfl, rfl, Nat.le_refl _, fun _ _ => rfl⟩
      have HPB := Lib.hid (HP.out.keep hb2)
      have H1B : Hid (Rtt.RtIn w2 p 0 43 cur s) := by rw [← hw2]; exact ⟨H1.out.1, H1.out.2⟩
      obtain ⟨_, _, hc2, _, hfz⟩ := H1B.out.cells
      have hfz2 := hfz 2
      simp only [Nat.zero_add] at hc2
      rw [HBK.out] at hc2
      have hlt0 := HP.out.lt
      have HM2 : Hid (Moved lo p w w2) := Moved.of hb2 (Nat.le_of_lt (Nat.lt_of_le_of_lt hlt0.1 hlt0.2))
      rw [hw2]
      clear hw2 hfz hb2 HWT HSI hlt0
      go_wp2_with fail
      obtain ⟨w3, hw3⟩ : ∃ x, w2.setCell ⟨p, 2, none⟩ (.int .i64 (bk + 1)) = x := ⟨_, rfl⟩
      have hrt : Rtt.RtTo w2 w3 p 0 43 cur (Rtt.back s (s.bk + 1)) := by
        rw [← hw3, HBK.out]
        exact H1B.out.here.bk (bk + 1)
      obtain ⟨hp3, hg3⟩ := HPB.out.rt H1B.out hrt (HPB.out.good.back _)
      have hlt2 := HPB.out.lt
      have hlo : lo ≤ w2.heap.size := Nat.le_of_lt (Nat.lt_of_le_of_lt hlt2.1 hlt2.2)
      have HM3 : Hid (Moved lo p w w3) := HM2.out.trans (moved_grown hg3 hlt2.1 hlo)
      have HLO : Hid (lo ≤ w.heap.size) := by have := HP.out.lt; show _ ≤ _; omega
      rw [hw3]
      obtain ⟨cur3, hr3, hl3, _⟩ := hp3.cur
      have HTK := Lib.hid (take_led hl3 HN.out)
      have HP3 := Lib.hid hp3
      have HR3 := Lib.hid hr3
      clear hw3 hrt hp3 hg3 hlt2 hlo hr3 hl3 hc2 hfz2
      refine HTK.out.mono ?_
      rintro e w4 ⟨v, rfl, hg⟩
      obtain ⟨A, c, rfl, htd, hp4, hm4⟩ := HP3.out.gone HR3.out hg
      rw [HP3.out.sel.2] at hp4
      rw [HP3.out.sel.1] at htd ⊢
      have HFR := Lib.hid (htd.frames (Nat.le_trans HP3.out.rising.2.2.1 HN.out) HTOT.out)
      have HTD := Lib.hid htd
      have HP4 := Lib.hid hp4
      have HM4 := Lib.hid (HM3.out.trans hm4)
      have HSZ : Hid (w.heap.size ≤ w4.heap.size) := HM4.out.below.size
      clear htd hp4 hm4 hg HTK HP3 HR3 HM3
      go_wp2_with fail
      refine HFR.out.mono ?_
      rintro e w5 ⟨A', c', rfl, ho5, hb5⟩
      have HF5 : Hid (w5.ownsRow w.heap.size 28 9 (.slice A' (allF kq).length c') (allF kq).length (fqs (allF kq)) ∧ (∀ q ∈ allF kq, FqOwn w5 lo q) ∧ PathIn w5 lo p (Rtt.back s (s.bk + 1)) [] next behind wd ∧ Moved lo p w w5) :=
        ⟨own_base ho5 HSZ.out, allF_own (HTD.out.keep hb5).rows, HP4.out.keep hb5, HM4.out.upper (hb5.mono HSZ.out) HLO.out⟩
      clear ho5 hb5 HFR
      go_wp2_with fail
      first | go_ret2 | go_ret
      exact .inr ⟨HF.out, A', c', rfl, HF5.out⟩
end
end Go.Proofs.Ytebfjphmlggacaa.Pa
