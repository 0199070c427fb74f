/- Joined texts. The reference's path in memory; Open, Probe: contracts. Conditions: as each theorem lists them. The reference's path: Late: a contract. Conditions: as each theorem lists them. -/
import Derived.Test.YtebfjphmlggacaaGreatJXb
import Derived.Test.YtebfjphmlggacaaGreatJPc
import Derived.Test.YtebfjphmlggacaaGreatJXc
set_option linter.unusedSimpArgs false
set_option linter.unusedVariables false

namespace Go.Proofs.YtebfjphmlggacaaGreat.Xr
open Go Go.RowKit Go.Proofs.YtebfjphmlggacaaGreat Go.Proofs.YtebfjphmlggacaaGreat.Sp Go.Proofs.YtebfjphmlggacaaGreat.Ld Go.Proofs.YtebfjphmlggacaaGreat.Pa

/-- The ledger's block has turned elsewhere. -/
theorem rled_cur {w w' : World} {lo p o : Nat} {T : TypeId} {cur cur' : Array Value} {ks : List Pk} {next acked : Nat} (h : RLed w lo p o T cur ks next acked) (hg : w.grownBy w' (some p)) (hp : w'.heap[p]? = some (.cells cur' T (0, 0))) (hs : ∀ j, o ≤ j → j < o + 3 → cur'[j]? = cur[j]?) : RLed w' lo p o T cur' ks next acked := by
  obtain ⟨A, c, e, ho, hl⟩ := h.row
  exact ⟨h.hlo, hp, h.hT, ⟨A, c, (hs o (by omega) (by omega)).trans e, own_other ho hg h.hp h.hT, hl⟩, (hs _ (by omega) (by omega)).trans h.c1, (hs _ (by omega) (by omega)).trans h.c2⟩

/-- The reference's path, its block p, its rows at lo or above. -/
structure RPathIn (w : World) (lo p : Nat) (s : Rtt.RS) (kq : List (Pk × List Fq)) (next acked : Nat) (wd : Cg.Win) : Prop where
  cur : ∃ cur, Rtt.RtIn w p 0 43 cur s ∧ RLed w lo p 4 43 cur (kq.map (·.1)) next acked ∧ Cg.WinIn w p 7 43 cur wd
  good : Rtt.Good s
  ok : Cg.OkW wd
  rows : ∀ x ∈ kq, FrRow w lo x.1 x.2
section
variable {w w' : World} {lo p : Nat} {s : Rtt.RS} {kq : List (Pk × List Fq)} {next acked : Nat} {wd : Cg.Win}
theorem RPathIn.lt (h : RPathIn w lo p s kq next acked wd) : lo ≤ p ∧ p < w.heap.size := by
  obtain ⟨cur, _, h2, _⟩ := h.cur
  exact h2.lt
theorem RPathIn.keep (h : RPathIn w lo p s kq next acked wd) (hb : Below w.heap.size w w') : RPathIn w' lo p s kq next acked wd := by
  obtain ⟨cur, h1, h2, h3⟩ := h.cur
  have e := hb.block p h2.lt.2
  exact ⟨⟨cur, ⟨e.trans h1.1, h1.2⟩, h2.keep hb, ⟨e.trans h3.hp, h3.c0, h3.c1, h3.c2, h3.c3⟩⟩, h.good, h.ok, fun x hx => (h.rows x hx).keep hb⟩
theorem RPathIn.rt {s' : Rtt.RS} (h : RPathIn w lo p s kq next acked wd) {cur : Array Value} (h1 : Rtt.RtIn w p 0 43 cur s) (ht : Rtt.RtTo w w' p 0 43 cur s') (hs : Rtt.Good s') : RPathIn w' lo p s' kq next acked wd ∧ w.grownBy w' (some p) := by
  obtain ⟨cur0, a1, a2, a3⟩ := h.cur
  obtain rfl : cur0 = cur := by
    have := a1.1.symm.trans h1.1
    simpa using this
  obtain ⟨cur', b1, b2, b3⟩ := ht
  have e : ∀ j, 4 ≤ j → cur'[j]? = cur0[j]? := fun j hj => b2.2 j (by omega)
  exact ⟨⟨⟨cur', b1, rled_cur a2 b3 b1.1 fun j hj _ => e j hj, ⟨b1.1, (e _ (by omega)).trans a3.c0, (e _ (by omega)).trans a3.c1, (e _ (by omega)).trans a3.c2, (e _ (by omega)).trans a3.c3⟩⟩, hs, h.ok, fun x hx => (h.rows x hx).other b3 a1.1 (by decide) (by decide) (by decide)⟩, b3⟩
theorem RPathIn.win {wd' : Cg.Win} {cur cur' : Array Value} (h : RPathIn w lo p s kq next acked wd) (h1 : Cg.WinIn w p 7 43 cur wd) (hw : Cg.WinIn w' p 7 43 cur' wd') (hs : Cg.CurSame 7 cur cur') (hg : w.grownBy w' (some p)) (hok : Cg.OkW wd') : RPathIn w' lo p s kq next acked wd' := by
  obtain ⟨cur0, a1, a2, a3⟩ := h.cur
  obtain rfl : cur0 = cur := by
    have := a3.hp.symm.trans h1.hp
    simpa using this
  have e : ∀ j, j < 7 → cur'[j]? = cur0[j]? := fun j hj => hs.2 j (by omega)
  exact ⟨⟨cur', ⟨hw.hp, (e _ (by omega)).trans a1.2.c0, (e _ (by omega)).trans a1.2.c1, (e _ (by omega)).trans a1.2.c2, (e _ (by omega)).trans a1.2.c3⟩, rled_cur a2 hg hw.hp fun j _ hj => e j (by omega), hw⟩, h.good, hok, fun x hx => (h.rows x hx).other hg a3.hp (by decide) (by decide) (by decide)⟩
theorem RPathIn.led {cur cur' : Array Value} {ks' : List Pk} {kq' : List (Pk × List Fq)} {next' acked' : Nat} (h : RPathIn w lo p s kq next acked wd) (h1 : Rtt.RtIn w p 0 43 cur s) (hl : RLed w' lo p 4 43 cur' ks' next' acked') (hs : Same3 4 cur cur') (hg : w.grownBy w' (some p)) (hk : kq'.map (·.1) = ks') (hr : ∀ x ∈ kq', x ∈ kq ∨ FrRow w' lo x.1 x.2) : RPathIn w' lo p s kq' next' acked' wd := by
  obtain ⟨cur0, a1, a2, a3⟩ := h.cur
  obtain rfl : cur0 = cur := by
    have := a1.1.symm.trans h1.1
    simpa using this
  have e : ∀ j, j < 4 ∨ 7 ≤ j → cur'[j]? = cur0[j]? := fun j hj => hs.2 j (by omega)
  exact ⟨⟨cur', ⟨hl.hp, (e _ (by omega)).trans a1.2.c0, (e _ (by omega)).trans a1.2.c1, (e _ (by omega)).trans a1.2.c2, (e _ (by omega)).trans a1.2.c3⟩, by rw [hk]; exact hl, ⟨hl.hp, (e _ (by omega)).trans a3.c0, (e _ (by omega)).trans a3.c1, (e _ (by omega)).trans a3.c2, (e _ (by omega)).trans a3.c3⟩⟩, h.good, h.ok, fun x hx => by
    rcases hr x hx with h' | h'
    · exact (h.rows x h').other hg a1.1 (by decide) (by decide) (by decide)
    · exact h'⟩

set_option maxRecDepth 100000 in
theorem ropen_path (h : RPathIn w lo p s kq next acked wd) (hn : kq.length ≤ 1099511627776) :
    Calls Tryz.prog 20 #[.pointer (some ⟨p, 0, none⟩)] w fun e w' => e = .returned (.bool (decide ((els (kq.map (·.1)) : Int) < wd.size))) ∧ ∃ q, w' = w.drewN q := by
  obtain ⟨cur, h1, h2, h3⟩ := h.cur
  have HF : Hid (∀ m, Calls Tryz.prog 22 #[.pointer (some ⟨p, 4, none⟩)] (w.drewN m) fun e w' => e = .returned (.int .i64 (els (kq.map (·.1)) : Int)) ∧ w' = w.drewN m) := fun m => rflight_any (h2.keep ⟨rfl, rfl, rfl, Nat.le_refl _, fun _ _ => rfl⟩) (by rw [List.length_map]; exact hn)
  have HT : Hid (∀ m n, Calls Tryz.prog 57 #[.pointer (some ⟨p, 7, none⟩), .int .i64 n] (w.drewN m) fun e w' => e = .returned (.bool (decide (n < wd.size))) ∧ w' = w.drewN m) := fun m n => Cg.rfits_any _ p 7 _ cur wd (h3.drewN m) n
  clear h h1 h2 h3
  go_enter Tryz.func20, Tryz.ntmps20
  go_wp2_with fail
  go_quiet ((first | (go_at_call 22; exact Calls.quiet_of_same (HF.out _)) | (go_at_call 57; exact Calls.quiet_of_same (HT.out _ _))))
  go_wp2_with fail
  go_ret
  exact ⟨rfl, nq, rfl⟩

set_option maxRecDepth 100000 in
set_option maxHeartbeats 4000000 in
theorem rprobe_path (h : RPathIn w lo p s kq next acked wd) (now : Int) (hnow : -4611686018427387904 ≤ now ∧ now ≤ 4611686018427387904) (hbk : 0 ≤ s.bk ∧ s.bk ≤ 1099511627776) (hn : kq.length ≤ 1099511627776) (htot : (Pa.allF kq).length ≤ 1099511627776) :
    Calls Tryz.prog 15 #[.pointer (some ⟨p, 0, none⟩), .int .i64 now] w fun e w' => (probeF s kq now = false ∧ e = .returned (.tuple #[.slice none 0 0, .bool false]) ∧ ∃ q, w' = w.drewN q) ∨
      (probeF s kq now = true ∧ ∃ A' c', e = .returned (.tuple #[.slice A' (Pa.allF kq).length c', .bool true]) ∧ w'.ownsRow w.heap.size 68 9 (.slice A' (Pa.allF kq).length c') (Pa.allF kq).length (fqs (Pa.allF kq)) ∧ (∀ q ∈ Pa.allF kq, FqOwn w' lo q) ∧
        RPathIn w' lo p (Rtt.back s (s.bk + 1)) [] next acked wd ∧ w.grownBy w' (some p)) := by
  obtain ⟨cur, h1, h2, h3⟩ := h.cur
  have HP := Lib.hid h
  have H1 := Lib.hid h1
  have HTOT := Lib.hid htot
  have HN := Lib.hid hn
  have HO := Lib.hid (roldest_any h2 (by rw [List.length_map]; exact hn))
  have HWT := Lib.hid (Rtt.rwait_any s h.good p 0 _ cur w h1)
  have hwb := Rtt.wait_bounds h.good
  have HPR : Hid (probeF s kq now = ((oldF (kq.map (·.1))).2 && decide ((oldF (kq.map (·.1))).1 ≤ now - Rtt.waitF s))) := rfl
  obtain ⟨at', hat⟩ : ∃ x, (oldF (kq.map (·.1))).1 = x := ⟨_, rfl⟩
  obtain ⟨ok, hok⟩ : ∃ x, (oldF (kq.map (·.1))).2 = x := ⟨_, rfl⟩
  obtain ⟨wt, hwt⟩ : ∃ x, Rtt.waitF s = x := ⟨_, rfl⟩
  rw [hat, hok] at HO
  rw [hat, hok, hwt] at HPR
  rw [hwt] at HWT hwb
  obtain ⟨hwb1, hwb2⟩ := hwb
  obtain ⟨hnow1, hnow2⟩ := hnow
  obtain ⟨hbk1, hbk2⟩ := hbk
  obtain ⟨bk, hbk⟩ : ∃ x, s.bk = x := ⟨_, rfl⟩
  have HBK := Lib.hid hbk
  rw [hbk] at hbk1 hbk2
  clear h h1 h2 h3 htot hn hat hok hwt hbk
  cases ok
  · have HF : Hid (probeF s kq now = false) := HPR.out
    go_enter Tryz.func15, Tryz.ntmps15
    go_wp2_with fail
    refine HO.out.mono ?_
    rintro e w1 ⟨rfl, hw1⟩
    subst hw1
    clear HO
    go_wp2_with fail
    first | go_ret2 | go_ret
    exact .inl ⟨HF.out, rfl, 0, rfl⟩
  · by_cases hlt : now - wt < at'
    · have HF : Hid (probeF s kq now = false) := by
        show _ = _
        rw [HPR.out, decide_eq_false (by omega)]
        rfl
      go_enter Tryz.func15, Tryz.ntmps15
      go_wp2_with fail
      refine HO.out.mono ?_
      rintro e w1 ⟨rfl, hw1⟩
      subst hw1
      clear HO
      go_wp2_with fail
      refine HWT.out.mono ?_
      rintro e w2 ⟨rfl, nq, rfl⟩
      go_wp2_with fail
      first | go_ret2 | go_ret
      exact .inl ⟨HF.out, rfl, nq, rfl⟩
    · have HF : Hid (probeF s kq now = true) := by
        show _ = _
        rw [HPR.out, decide_eq_true (by omega)]
        rfl
      go_enter Tryz.func15, Tryz.ntmps15
      go_wp2_with fail
      refine HO.out.mono ?_
      rintro e w1 ⟨rfl, hw1⟩
      subst hw1
      clear HO
      go_wp2_with fail
      refine HWT.out.mono ?_
      rintro e w2 ⟨rfl, nq, hw2⟩
      have HQ : Hid (w1.heap.size = w2.heap.size ∧ Below w1.heap.size w1 w2) := by rw [hw2]; exact ⟨rfl, ⟨rfl, rfl, rfl, Nat.le_refl _, fun _ _ => rfl⟩⟩
      have HP2 := Lib.hid (HP.out.keep HQ.out.2)
      have H12 : Hid (Rtt.RtIn w2 p 0 43 cur s) := by rw [hw2]; exact ⟨H1.out.1, H1.out.2⟩
      clear hw2 HWT
      obtain ⟨_, _, hc2, _, hfz⟩ := H12.out.cells
      have hfz2 := hfz 2
      simp only [Nat.zero_add] at hc2
      rw [HBK.out] at hc2
      clear hfz
      go_wp2_with fail
      obtain ⟨w3, hw3⟩ : ∃ x, w2.setCell ⟨p, 2, none⟩ (.int .i64 (bk + 1)) = x := ⟨_, rfl⟩
      have hrt : Rtt.RtTo w2 w3 p 0 43 cur (Rtt.back s (s.bk + 1)) := by
        rw [← hw3, HBK.out]
        exact H12.out.here.bk (bk + 1)
      obtain ⟨hp3, hg3⟩ := HP2.out.rt H12.out hrt (HP2.out.good.back _)
      have HG3 := Lib.hid hg3
      rw [hw3]
      obtain ⟨cur3, hr3, hl3, hw3'⟩ := hp3.cur
      have HTK := Lib.hid (rtake_any hl3 (by have := (Array.getElem?_eq_some_iff.1 hw3'.c0).1; omega))
      have HP3 := Lib.hid hp3
      have HR3 := Lib.hid hr3
      clear hw3 hrt hp3 hg3 hr3 hl3 hc2 hfz2 hw3'
      refine HTK.out.mono ?_
      rintro e w4 ⟨A, c, cur4, rfl, hlc, ho4, hl4, hs4, hg4⟩
      rw [List.length_map] at hlc ho4 ⊢
      have HP4 := Lib.hid (HP3.out.led HR3.out hl4 hs4 hg4 (kq' := []) rfl (fun x hx => by cases hx))
      have hrows : ∀ x ∈ kq, FrRow w4 lo x.1 x.2 := fun x hx => (HP3.out.rows x hx).other hg4 HR3.out.1 (by decide) (by decide) (by decide)
      have HRO := Lib.hid hrows
      have HG4 := Lib.hid hg4
      have HFR := Lib.hid (rframes_any kq kq.length c A w4 rfl (Rd.of_own ho4) hlc HN.out (fun x hx => ⟨(hrows x hx).len, Rd.of_own (hrows x hx).own⟩) HTOT.out)
      clear hlc ho4 hl4 hs4 hg4 hrows HTK HP3 HR3
      go_wp2_with fail
      refine HFR.out.mono ?_
      rintro e w5 ⟨A', c', rfl, ho5, hb5⟩
      have hgall : w1.grownBy w5 (some p) := ⟨hb5.os.trans (HG4.out.os.trans (HG3.out.os.trans HQ.out.2.os)), hb5.tape.trans (HG4.out.tape.trans (HG3.out.tape.trans HQ.out.2.tape)), hb5.output.trans (HG4.out.output.trans (HG3.out.output.trans HQ.out.2.output)), Nat.le_trans HQ.out.2.size (Nat.le_trans HG3.out.size (Nat.le_trans HG4.out.size hb5.size)), fun i hi hne => by
        have i2 : i < w2.heap.size := Nat.lt_of_lt_of_le hi HQ.out.2.size
        have i3 : i < w3.heap.size := Nat.lt_of_lt_of_le i2 HG3.out.size
        have i4 : i < w4.heap.size := Nat.lt_of_lt_of_le i3 HG4.out.size
        exact (hb5.block i i4).trans ((HG4.out.block i i3 hne).trans ((HG3.out.block i i2 hne).trans (HQ.out.2.block i hi)))⟩
      have HF5 : Hid (w5.ownsRow w1.heap.size 68 9 (.slice A' (Pa.allF kq).length c') (Pa.allF kq).length (fqs (Pa.allF kq)) ∧ (∀ q ∈ Pa.allF kq, FqOwn w5 lo q) ∧ RPathIn w5 lo p (Rtt.back s (s.bk + 1)) [] next acked wd ∧ w1.grownBy w5 (some p)) :=
        ⟨own_base ho5 (Nat.le_trans HQ.out.2.size (Nat.le_trans HG3.out.size HG4.out.size)), allF_own (fun x hx => (HRO.out x hx).keep hb5), HP4.out.keep hb5, hgall⟩
      clear ho5 hb5 HFR hgall
      go_wp2_with fail
      first | go_ret2 | go_ret
      exact .inr ⟨HF.out, A', c', rfl, HF5.out⟩
end
end Go.Proofs.YtebfjphmlggacaaGreat.Xr

namespace Go.Proofs.YtebfjphmlggacaaGreat.Xr
open Go Go.RowKit Go.Proofs.YtebfjphmlggacaaGreat Go.Proofs.YtebfjphmlggacaaGreat.Sp Go.Proofs.YtebfjphmlggacaaGreat.Ld Go.Proofs.YtebfjphmlggacaaGreat.Pa

theorem grown_below2 {a b c : World} {r : Option Nat} (h : a.grownBy b r) (k : Below b.heap.size b c) : a.grownBy c r :=
  ⟨k.os.trans h.os, k.tape.trans h.tape, k.output.trans h.output, Nat.le_trans h.size k.size, fun i hi hne => (k.block i (Nat.lt_of_lt_of_le hi h.size)).trans (h.block i hi hne)⟩
theorem grown_two2 {a b c : World} {r : Option Nat} (h : a.grownBy b r) (k : b.grownBy c r) : a.grownBy c r :=
  ⟨k.os.trans h.os, k.tape.trans h.tape, k.output.trans h.output, Nat.le_trans h.size k.size, fun i hi hne => (k.block i (Nat.lt_of_lt_of_le hi h.size) hne).trans (h.block i hi hne)⟩
section
variable {w w' : World} {lo p : Nat} {s : Rtt.RS} {kq : List (Pk × List Fq)} {next acked : Nat} {wd : Cg.Win}
set_option maxRecDepth 100000 in
set_option maxHeartbeats 8000000 in
theorem rlate_path (h : RPathIn w lo p s kq next acked wd) (now : Int) (hnow : -4611686018427387904 ≤ now ∧ now ≤ 4611686018427387904) (hn : kq.length ≤ 1099511627776) (hac : acked ≤ 1099511627776) (hnum : ∀ x ∈ kq, x.1.num ≤ 1099511627776) (htot : (Pa.allF kq).length ≤ 1099511627776) :
    Calls Tryz.prog 13 #[.pointer (some ⟨p, 0, none⟩), .int .i64 now] w fun e w' => ∃ A' c', e = .returned (.slice A' (Pa.allF (selK (lateS acked now s) kq)).length c') ∧ w'.ownsRow w.heap.size 68 9 (.slice A' (Pa.allF (selK (lateS acked now s) kq)).length c') (Pa.allF (selK (lateS acked now s) kq)).length (fqs (Pa.allF (selK (lateS acked now s) kq))) ∧ (∀ q ∈ Pa.allF (selK (lateS acked now s) kq), FqOwn w' lo q) ∧
      RPathIn w' lo p s (selK (fun k => !lateS acked now s k) kq) next acked (badL wd (selK (lateS acked now s) kq) next) ∧ w.grownBy w' (some p) := by
  obtain ⟨cur, h1, h2, h3⟩ := h.cur
  have HTOT := Lib.hid htot
  have HN := Lib.hid hn
  have hr := h.good.round
  have hl : 0 ≤ Rtt.lateF s ∧ Rtt.lateF s ≤ 1099511627776 := by unfold Rtt.lateF; omega
  have HP := Lib.hid h
  have H1 := Lib.hid h1
  have HLT : Hid (Calls Tryz.prog 44 #[.pointer (some ⟨p, 0, none⟩)] w.drew fun e w' => e = .returned (.int .i64 (Rtt.lateF s)) ∧ w' = w.drew) := Rtt.rlate_any s h.good p 0 _ cur w.drew ⟨h1.1, h1.2⟩
  have HLO := Lib.hid (rlose_any (h2.keep (w' := w.drew) (Below.refl _ _).drew) (by rw [List.length_map]; exact hn) hac (fun k hk => by
    obtain ⟨x, hx, rfl⟩ := List.mem_map.1 hk
    exact hnum x hx) now (Rtt.lateF s) hnow hl)
  have hlt := h.lt
  have HLTP := Lib.hid hlt
  clear h h1 h2 h3 htot hn hr hl hnow hlt hnum
  go_enter Tryz.func13, Tryz.ntmps13
  go_wp2_with fail
  refine Rtt.still_tail 8 (by kernel_rfl) (by kernel_rfl) ?_
  intro wz hwz
  rw [← hwz] at HLT HLO
  have HPZ : Hid (RPathIn wz lo p s kq next acked wd) := by rw [hwz]; exact HP.out.keep (Below.refl _ _).drew
  have H1Z : Hid (Rtt.RtIn wz p 0 43 cur s) := by rw [hwz]; exact ⟨H1.out.1, H1.out.2⟩
  have HGZ : Hid (w.grownBy wz (some p)) := by rw [hwz]; exact ⟨rfl, rfl, rfl, Nat.le_refl _, fun _ _ _ => rfl⟩
  clear hwz HP H1
  simp only [List.take_succ_cons, List.take_zero, List.drop_succ_cons, List.drop_zero]
  iterate 7 still_step
  still_call HLT.out
  refine wpStill_nil ?_
  clear HLT
  go_wp2_with fail
  refine HLO.out.mono ?_
  rintro e w1 ⟨A, c, cur1, rfl, hlc, ho1, hl1, hs1, hg1⟩
  clear HLO
  obtain ⟨f, hf⟩ : ∃ x, selB 0 ((acked : Int) - 1) (oldB acked now (Rtt.lateF s)) = x := ⟨_, rfl⟩
  have HFL : Hid (lateS acked now s = f) := hf
  rw [hf] at hlc ho1 hl1 ⊢
  clear hf
  obtain ⟨L, hL⟩ : ∃ x, selK f kq = x := ⟨_, rfl⟩
  obtain ⟨R, hR⟩ : ∃ x, selK (fun k => !f k) kq = x := ⟨_, rfl⟩
  have hLm : (kq.map (·.1)).filter f = L.map (·.1) := by rw [← hL, selK_map]
  have hRm : R.map (·.1) = (kq.map (·.1)).filter fun k => !f k := by rw [← hR, selK_map]
  rw [hLm, List.length_map] at hlc ho1
  rw [hLm, List.length_map]
  have htd : Pa.Told w1 lo wz.heap.size A c L := ⟨ho1, fun x hx => (HPZ.out.rows x (selK_mem (by rw [hL]; exact hx))).other hg1 H1Z.out.1 (by decide) (by decide) (by decide), hlc⟩
  have hp1 : RPathIn w1 lo p s R next acked wd := HPZ.out.led H1Z.out hl1 hs1 hg1 hRm (fun x hx => .inl (selK_mem (by rw [hR]; exact hx)))
  have HGL : Hid (selK (lateS acked now s) kq = L) := by show _ = _; rw [HFL.out]; exact hL
  have HGR : Hid (selK (fun k => !lateS acked now s k) kq = R) := by show _ = _; rw [HFL.out]; exact hR
  have hLn : L.length ≤ 1099511627776 := by rw [← hL]; exact Nat.le_trans (selK_len _ _) HN.out
  have hLt : (Pa.allF L).length ≤ 1099511627776 := by rw [← hL]; exact Nat.le_trans (allF_filter _ _) HTOT.out
  have HG1 := Lib.hid (grown_two2 HGZ.out hg1)
  have HNL := Lib.hid hLn
  have HTL := Lib.hid hLt
  have HTD := Lib.hid htd
  have HP1 := Lib.hid hp1
  have hlnI : (L.length : Int) ≤ 1099511627776 := by omega
  have HLA := Lib.hid (rlast_any (L.map (·.1)) L.length c A w1 (by rw [List.length_map]) htd.rd htd.le hLn)
  clear hL hR hLm hRm hLn hLt htd hp1 hlc ho1 hl1 hs1 hg1 HTOT HPZ H1Z HGZ HFL
  go_wp2_with fail
  refine HLA.out.mono ?_
  rintro e w2 ⟨x, rfl, hx0, hx1, hxe, hw2⟩
  subst hw2
  obtain ⟨E, hE⟩ : ∃ x, els (L.map (·.1)) = x := ⟨_, rfl⟩
  have HE := Lib.hid hE
  rw [hE] at hxe
  clear hE HLA
  by_cases h0 : 0 < E
  · have hx2 : 0 ≤ x := hxe.2 h0
    have hLp : 0 < L.length := by
      rcases Nat.eq_zero_or_pos L.length with h | h
      · have := HE.out
        rw [List.eq_nil_of_length_eq_zero h] at this
        have e0 : els ([] : List Pk) = 0 := rfl
        simp only [List.map_nil, e0] at this
        omega
      · exact h
    obtain ⟨n1, hn1⟩ : ∃ n1, L.length = n1 + 1 := ⟨L.length - 1, by omega⟩
    obtain ⟨b, off, k, hA, hbl, _, hkn, _, hc0, _⟩ := last_cell HTD.out hLp
    subst hA
    rw [hn1, Nat.add_sub_cancel] at hc0
    have HN1 := Lib.hid hn1
    have hn1I : (n1 : Int) + 1 ≤ 1099511627776 := by omega
    have hn10 : 0 ≤ (n1 : Int) := by omega
    have hwr : IntKind.i64.wrap (n1 : Int) = (n1 : Int) := IntWalk.i64_in _ (by omega)
    have hn11 : (n1 : Int) < (n1 : Int) + 1 := by omega
    have hcap : n1 + 1 ≤ c := by have := HTD.out.le; omega
    have hcapI : (n1 : Int) + 1 ≤ (c : Int) := by omega
    have HBADL : Hid (badL wd L next = Cg.badS wd (k.num : Int) (next : Int)) := by
      show _ = _
      unfold badL
      rw [HE.out, if_pos h0, hkn]
    have hcn : w2.cell? ⟨p, 5, none⟩ = some (.int .i64 (next : Int)) := by
      obtain ⟨cu, _, hl, _⟩ := HP1.out.cur
      exact hl.cell.1
    clear hkn hLp hxe hx1
    rw [hn1]
    clear hn1 hlnI
    go_wp2_with fail
    refine Rtt.still_tail 15 (by kernel_rfl) (by kernel_rfl) ?_
    intro wy hwy
    have hz0 : wy.cell? ⟨b, off + n1 * 4, none⟩ = some (.int .i64 (k.num : Int)) := by rw [hwy]; exact hc0
    have hz1 : wy.cell? ⟨p, 5, none⟩ = some (.int .i64 (next : Int)) := by rw [hwy]; exact hcn
    have HTD3 : Hid (Pa.Told wy lo wz.heap.size (some ⟨b, off, none⟩) c L) := by rw [hwy]; exact HTD.out.keep (Below.refl _ _).drew
    have HP3 : Hid (RPathIn wy lo p s R next acked wd) := by rw [hwy]; exact HP1.out.keep (Below.refl _ _).drew
    have HG3 : Hid (w.grownBy wy (some p)) := by rw [hwy]; exact grown_below2 HG1.out (Below.refl _ _).drew
    obtain ⟨cur3, hr3, hl3, hw3⟩ := HP3.out.cur
    have HBD := Lib.hid (Cg.rbad_any wy p 7 _ cur3 wd hw3 HP3.out.ok (k.num : Int) (next : Int))
    have HW3 := Lib.hid hw3
    clear hwy hc0 hcn HTD HP1 HG1 hr3 hl3 hw3
    simp only [List.take_succ_cons, List.take_zero, List.drop_succ_cons, List.drop_zero]
    iterate 15 still_step
    refine wpStill_nil ?_
    clear hz0 hz1
    go_wp2_with fail
    refine HBD.out.mono ?_
    rintro e w4 ⟨rfl, cur4, hw4, hs4, hg4⟩
    have HP4 := Lib.hid (HP3.out.win HW3.out hw4 hs4 hg4 (HP3.out.ok.bad _ _))
    have HTD4 := Lib.hid (HTD3.out.other hg4 HW3.out.hp (by decide) (by decide) (by decide) (by decide))
    have HG4 := Lib.hid (grown_two2 HG3.out hg4)
    have HFR := Lib.hid (rframes_any L L.length c (some ⟨b, off, none⟩) w4 rfl HTD4.out.rd HTD4.out.le HNL.out (fun x hx => ⟨(HTD4.out.rows x hx).len, Rd.of_own (HTD4.out.rows x hx).own⟩) HTL.out)
    rw [HN1.out] at HFR
    clear hw4 hs4 hg4 HP3 HTD3 HG3 HW3 HBD
    go_wp2_with fail
    refine HFR.out.mono ?_
    rintro e w5 ⟨A', c', rfl, ho5, hb5⟩
    have HF5 : Hid (w5.ownsRow w.heap.size 68 9 (.slice A' (Pa.allF L).length c') (Pa.allF L).length (fqs (Pa.allF L)) ∧ (∀ q ∈ Pa.allF L, FqOwn w5 lo q) ∧ RPathIn w5 lo p s R next acked (badL wd L next) ∧ w.grownBy w5 (some p)) :=
      ⟨own_base ho5 HG4.out.size, allF_own (HTD4.out.keep hb5).rows, by rw [HBADL.out]; exact HP4.out.keep hb5, grown_below2 HG4.out hb5⟩
    clear ho5 hb5 HFR
    go_wp2_with fail
    go_ret
    rw [HGL.out, HGR.out]
    exact ⟨A', c', rfl, HF5.out⟩
  · have hx2 : ¬ 0 ≤ x := fun h => h0 (hxe.1 h)
    have HBADL : Hid (badL wd L next = wd) := by
      show _ = _
      unfold badL
      rw [HE.out, if_neg h0]
    have HP4 := HP1
    have HTD4 := HTD
    have HG4 := HG1
    have HFR := Lib.hid (rframes_any L L.length c A w2 rfl HTD4.out.rd HTD4.out.le HNL.out (fun x hx => ⟨(HTD4.out.rows x hx).len, Rd.of_own (HTD4.out.rows x hx).own⟩) HTL.out)
    clear HP1 HTD HG1 hxe
    go_wp2_with fail
    refine HFR.out.mono ?_
    rintro e w5 ⟨A', c', rfl, ho5, hb5⟩
    have HF5 : Hid (w5.ownsRow w.heap.size 68 9 (.slice A' (Pa.allF L).length c') (Pa.allF L).length (fqs (Pa.allF L)) ∧ (∀ q ∈ Pa.allF L, FqOwn w5 lo q) ∧ RPathIn w5 lo p s R next acked (badL wd L next) ∧ w.grownBy w5 (some p)) :=
      ⟨own_base ho5 HG4.out.size, allF_own (HTD4.out.keep hb5).rows, by rw [HBADL.out]; exact HP4.out.keep hb5, grown_below2 HG4.out hb5⟩
    clear ho5 hb5 HFR
    go_wp2_with fail
    go_ret
    rw [HGL.out, HGR.out]
    exact ⟨A', c', rfl, HF5.out⟩
end
end Go.Proofs.YtebfjphmlggacaaGreat.Xr
