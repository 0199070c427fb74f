/- The path's Heard: a contract. Conditions: as each theorem lists them. -/
import Derived.Test.YtebfjphmlggacaaJPe
import Derived.Test.YtebfjphmlggacaaJLk
set_option linter.unusedSimpArgs false
set_option linter.unusedVariables false

namespace Go.Proofs.Ytebfjphmlggacaa.Pa
open Go Go.RowKit Go.Proofs.Ytebfjphmlggacaa Go.Proofs.Ytebfjphmlggacaa.Sp Go.Proofs.Ytebfjphmlggacaa.Ld

section
variable {w w' : World} {lo p : Nat} {s : Rtt.RS} {kq : List (Pk × List Fq)} {next behind : Nat} {wd : Cg.Win}
/-- When the last one was sent. -/
def lastAt (l : List (Pk × List Fq)) : Int := ((l.map (·.1)).getLast?.map (·.at')).getD 0
/-- What an acknowledgement does to the round. -/
def heardS (s : Rtt.RS) (l : List (Pk × List Fq)) (bh : Nat) (now : Int) : Rtt.RS := if 0 < els (l.map (·.1)) ∧ (lastN l : Int) = (bh : Int) - 1 then Rtt.samp s (now - lastAt l) else s
/-- Which ones are in the runs. -/
def inRs (rs : List (Int × Int)) : Pk → Bool := fun k => ranB rs k.num

set_option maxRecDepth 100000 in
set_option maxHeartbeats 8000000 in
theorem heard_path (h : PathIn w lo p s kq next behind wd) (rs : List (Int × Int)) (hm : rs.length ≤ 1000000) (A : Option Addr) (c : Nat) (hc : rs.length ≤ c) (hrd : Rd w w.heap.size A (rs.length * 2) (ints (pl rs))) (now : Int) (hnow : -2305843009213693952 ≤ now ∧ now ≤ 2305843009213693952) (hat : ∀ x ∈ kq, -2305843009213693952 ≤ x.1.at' ∧ x.1.at' ≤ 2305843009213693952) (hn : next ≤ 1800000000000) (htot : (allF kq).length ≤ 1800000000000) :
    Calls Try.prog 9 #[.pointer (some ⟨p, 0, none⟩), .slice A rs.length c, .int .i64 now] w fun e w' => ((∃ r ∈ rs, (next : Int) ≤ r.2) ∧ e = .returned (.tuple #[.slice none 0 0, .int .i64 2]) ∧ Below w.heap.size w w') ∨
      ((∀ r ∈ rs, r.2 < (next : Int)) ∧ ∃ A' c', e = .returned (.tuple #[.slice A' (allF (selK (inRs rs) kq)).length c', .int .i64 0]) ∧ w'.ownsRow w.heap.size 28 9 (.slice A' (allF (selK (inRs rs) kq)).length c') (allF (selK (inRs rs) kq)).length (fqs (allF (selK (inRs rs) kq))) ∧ (∀ q ∈ allF (selK (inRs rs) kq), FqOwn w' lo q) ∧
        PathIn w' lo p (heardS s (selK (inRs rs) kq) (behF behind rs) now) (selK (fun k => !inRs rs k) kq) next (behF behind rs) (Cg.goodN (els ((selK (inRs rs) kq).map (·.1))) wd) ∧ Moved lo p w w') := by
  obtain ⟨cur, h1, h2, h3⟩ := h.cur
  have hlen : kq.length ≤ next := by have := h2.len; rwa [List.length_map] at this
  have HLEN := Lib.hid hlen
  have HTOT := Lib.hid htot
  have HN := Lib.hid hn
  have HAT := Lib.hid hat
  have HP := Lib.hid h
  have H1 := Lib.hid h1
  have hlt := h.lt
  have HLT := Lib.hid hlt
  have HLO : Hid (lo ≤ w.heap.size) := Nat.le_of_lt (Nat.lt_of_le_of_lt hlt.1 hlt.2)
  have HAC := Lib.hid (ack_led w lo p 4 _ cur _ next behind h2 hn rs hm A c hc hrd)
  obtain ⟨hnow1, hnow2⟩ := hnow
  clear h h1 h2 h3 hlen htot hn hat hrd hlt
  go_enter Try.func9, Try.ntmps9
  go_wp2_with fail
  refine HAC.out.mono ?_
  intro e w1 hA
  clear HAC
  rcases hA with ⟨hr, rfl, hb⟩ | ⟨hr, A1, n1, c1, cur1, rfl, hn1, ho1, hl1, hs1, hm1⟩
  · have HE := Lib.hid (And.intro hr hb)
    clear hr hb
    go_wp2_with fail
    first | go_ret2 | go_ret
    exact .inl ⟨HE.out.1, rfl, HE.out.2⟩
  · have HRS := Lib.hid hr
    obtain ⟨A2, c2, e2, htd, hp1, hm1'⟩ := HP.out.gone H1.out (f := inRs rs) (v := .slice A1 n1 c1) ⟨A1, c1, cur1, by rw [hn1]; rfl, by rw [hn1] at ho1; exact ho1, hl1, hs1, hm1⟩
    clear ho1 hl1 hs1 hm1 hn1 hr
    simp only [Value.slice.injEq] at e2
    obtain ⟨rfl, hn1, rfl⟩ := e2
    obtain ⟨L, hL⟩ : ∃ x, selK (inRs rs) kq = x := ⟨_, rfl⟩
    obtain ⟨R, hR⟩ : ∃ x, selK (fun k => !inRs rs k) kq = x := ⟨_, rfl⟩
    obtain ⟨bh, hbh⟩ : ∃ x, behF behind rs = x := ⟨_, rfl⟩
    have HGL := Lib.hid hL
    have HGR := Lib.hid hR
    have HBH := Lib.hid hbh
    rw [hL] at htd hn1
    rw [hR, hbh] at hp1
    subst hn1
    have hLn : L.length ≤ 1800000000000 := by rw [← hL]; exact Nat.le_trans (selK_len _ _) (Nat.le_trans HLEN.out HN.out)
    have hLt : (allF L).length ≤ 1800000000000 := by rw [← hL]; exact Nat.le_trans (allF_filter _ _) HTOT.out
    have HLA : Hid (∀ x ∈ L, -2305843009213693952 ≤ x.1.at' ∧ x.1.at' ≤ 2305843009213693952) := by
      rw [← hL]
      exact fun x hx => HAT.out x (selK_mem hx)
    have hbhn : bh ≤ 1800000000000 := Nat.le_trans hp1.rising.2.2.2 HN.out
    have hbhI : (bh : Int) ≤ 1800000000000 := by omega
    have HNL := Lib.hid hLn
    have HTL := Lib.hid hLt
    have HTD := Lib.hid htd
    have HP1 := Lib.hid hp1
    have HM1 := Lib.hid hm1'
    have hlnI : (L.length : Int) ≤ 1800000000000 := by omega
    clear hL hR hbh hLn hLt htd hp1 hm1' HTOT HP H1 HLEN HAT
    go_wp2_with fail
    refine (HTD.out.elics HNL.out).mono ?_
    rintro e w2 ⟨rfl, hb2⟩
    have HTD2 := Lib.hid (HTD.out.keep hb2)
    have HP2 := Lib.hid (HP1.out.keep hb2)
    have HM2 : Hid (Moved lo p w w2) := HM1.out.upper (hb2.mono HM1.out.below.size) HLO.out
    have hel : els (L.map (·.1)) ≤ L.length := by have := List.countP_le_length (p := fun k : Pk => k.el) (l := L.map (·.1)); rwa [List.length_map] at this
    clear hb2 HTD HP1 HM1
    obtain ⟨E, hE⟩ : ∃ x, els (L.map (·.1)) = x := ⟨_, rfl⟩
    have HE := Lib.hid hE
    rw [hE] at hel ⊢
    have hEI : (E : Int) ≤ (L.length : Int) := by omega
    clear hE hel
    by_cases h0 : 0 < E
    · have h0I : 0 < (E : Int) := by omega
      obtain ⟨cur2, _, _, hw2⟩ := HP2.out.cur
      have HGD := Lib.hid (Cg.good_any w2 p 8 _ cur2 wd hw2 HP2.out.ok (E : Int) ⟨by omega, by omega⟩)
      have HW2 := Lib.hid hw2
      clear hw2
      go_wp2_with fail
      refine HGD.out.mono ?_
      rintro e w3 ⟨rfl, cur3, hw3, hs3, hg3⟩
      rw [Int.toNat_natCast] at hw3
      have HP3 := Lib.hid (HP2.out.win HW2.out hw3 hs3 hg3 (HP2.out.ok.goodN E))
      have HTD3 := Lib.hid (HTD2.out.other hg3 HW2.out.hp (by decide) (by decide) (by decide) (by decide))
      have HM3 : Hid (Moved lo p w w3) := HM2.out.trans (moved_grown hg3 HLT.out.1 (Nat.le_trans HLO.out HM2.out.below.size))
      clear hw3 hs3 hg3 HP2 HTD2 HM2 HW2 HGD
      have hLp : 0 < L.length := by omega
      obtain ⟨n1, hn1⟩ : ∃ n1, L.length = n1 + 1 := ⟨L.length - 1, by omega⟩
      obtain ⟨b, off, k, hA, hbl, hgl, hkn, ⟨qs, hkm⟩, hc0, hc1, hc2, hc3⟩ := last_cell HTD3.out hLp
      subst hA
      rw [hn1, Nat.add_sub_cancel] at hc0 hc1 hc2 hc3
      have hkr := HLA.out _ hkm
      simp only at hkr
      have HKN := Lib.hid hkn
      have HKA : Hid (lastAt L = k.at') := by show _ = _; unfold lastAt; rw [hgl]; rfl
      have HN1 := Lib.hid hn1
      have hn1I : (n1 : Int) + 1 ≤ 1800000000000 := by omega
      have hn10 : 0 ≤ (n1 : Int) := by omega
      have hn11 : (n1 : Int) < (n1 : Int) + 1 := by omega
      have hcap : n1 + 1 ≤ c1 := by have := HTD3.out.le; omega
      have hcapI : (n1 : Int) + 1 ≤ (c1 : Int) := by omega
      obtain ⟨wa, hwa⟩ : ∃ x, w3.alloc (.cells #[.int .i64 (k.num : Int), .int .i64 k.at', .bool k.el, .slice k.fa k.fn k.fc] 63) = x := ⟨_, rfl⟩
      obtain ⟨q4, hq4⟩ : ∃ x, w3.heap.size = x := ⟨_, rfl⟩
      have hba : Below w3.heap.size w3 wa := hwa ▸ (Below.refl _ _).alloc (Nat.le_refl _) _
      have hq : wa.heap[q4]? = some (.cells #[.int .i64 (k.num : Int), .int .i64 k.at', .bool k.el, .slice k.fa k.fn k.fc] 63 (0, 0)) := by rw [← hwa, ← hq4]; exact heap_alloc_new _ _
      have HPA := Lib.hid (HP3.out.keep hba)
      have HTDA := Lib.hid (HTD3.out.keep hba)
      have HMA : Hid (Moved lo p w wa) := HM3.out.upper (hba.mono HM3.out.below.size) HLO.out
      have HQ := Lib.hid hq
      have hcq := cell_slot hq (o := 0) rfl
      clear hkn hgl hkm hLp hba hq HP3 HTD3 HM3 HLA
      rw [hn1]
      clear hn1 hlnI hEI
      go_upto_region 8 with (fail)
      clear hwa hc0 hc1 hc2 hc3 hq4
      have HAK : Hid (∀ m, Calls Try.prog 13 #[.pointer (some ⟨p, 4, none⟩)] (wa.drewN m) fun e w' => e = .returned (.int .i64 ((bh : Int) - 1)) ∧ w' = wa.drewN m) := fun m => by
        obtain ⟨cur4, _, hl4, _⟩ := HPA.out.cur
        exact acked_led (hl4.keep ⟨rfl, rfl, rfl, Nat.le_refl _, fun _ _ => rfl⟩) HN.out
      go_quiet ((go_at_call 13; exact Calls.quiet_of_same (HAK.out _)))
      obtain ⟨w5, hw5⟩ : ∃ x, wa.drewN nq = x := ⟨_, rfl⟩
      have hb5 : Below wa.heap.size wa w5 := hw5 ▸ ⟨rfl, rfl, rfl, Nat.le_refl _, fun _ _ => rfl⟩
      have HP5 := Lib.hid (HPA.out.keep hb5)
      have HTD5 := Lib.hid (HTDA.out.keep hb5)
      have HM5 : Hid (Moved lo p w w5) := HMA.out.upper (hb5.mono HMA.out.below.size) HLO.out
      have HQ5 : Hid (w5.heap[q4]? = some (.cells #[.int .i64 (k.num : Int), .int .i64 k.at', .bool k.el, .slice k.fa k.fn k.fc] 63 (0, 0))) := by show _ = _; rw [← hw5]; exact HQ.out
      rw [hw5]
      clear hw5 hb5 HPA HTDA HMA HQ hcq HAK
      obtain ⟨cb, hcb⟩ : ∃ x, ((k.num : Int) == (bh : Int) - 1) = x := ⟨_, rfl⟩
      rw [hcb]
      cases cb
      rotate_left
      · have hk : (k.num : Int) = (bh : Int) - 1 := by simpa using hcb
        have HHS : Hid (heardS s L bh now = Rtt.samp s (now - k.at')) := by
          show _ = _
          unfold heardS
          rw [HE.out, if_pos ⟨h0, by rw [← HKN.out]; exact hk⟩, HKA.out]
        clear hk hcb
        go_wp2_with fail
        refine Rtt.still_tail 7 (by kernel_rfl) (by kernel_rfl) ?_
        intro wz hwz
        have hz1 : wz.cell? ⟨q4, 1, none⟩ = some (.int .i64 k.at') := by rw [hwz]; exact cell_slot HQ5.out rfl
        have HSI := Lib.hid (since_any k.at' now wz ⟨by omega, by omega⟩ ⟨by omega, by omega⟩)
        have HTD6 : Hid (Told wz lo w.heap.size (some ⟨b, off, none⟩) c1 L) := by rw [hwz]; exact HTD5.out.keep (Below.refl _ _).drew
        have HP6 : Hid (PathIn wz lo p s R next bh (Cg.goodN E wd)) := by rw [hwz]; exact HP5.out.keep (Below.refl _ _).drew
        have HM6 : Hid (Moved lo p w wz) := by rw [hwz]; exact HM5.out.upper ((Below.refl _ _).drew.mono HM5.out.below.size) HLO.out
        obtain ⟨cur6, hr6, _, _⟩ := HP6.out.cur
        have HSM := Lib.hid (Rtt.sample_any s HP6.out.good (now - k.at') p 0 _ cur6 wz hr6)
        have HR6 := Lib.hid hr6
        clear hwz HTD5 HP5 HM5 HQ5 hr6
        simp only [List.take_succ_cons, List.take_zero, List.drop_succ_cons, List.drop_zero]
        iterate 6 still_step
        still_call HSI.out
        refine wpStill_nil ?_
        clear hz1
        go_wp2_with fail
        refine HSM.out.mono ?_
        rintro e w7 ⟨rfl, ht7⟩
        have hp7 := HP6.out.rt HR6.out ht7 (HP6.out.good.samp _)
        have HP7 := Lib.hid hp7.1
        have HTD7 := Lib.hid (HTD6.out.other hp7.2 HR6.out.1 (by decide) (by decide) (by decide) (by decide))
        have HM7 : Hid (Moved lo p w w7) := HM6.out.trans (moved_grown hp7.2 HLT.out.1 (Nat.le_trans HLO.out HM6.out.below.size))
        have HFR := Lib.hid (HTD7.out.frames HNL.out HTL.out)
        rw [HN1.out] at HFR
        clear hp7 ht7 HP6 HTD6 HM6 HR6 HSM HSI
        go_wp2_with fail
        refine HFR.out.mono ?_
        rintro e w8 ⟨A', c', rfl, ho8, hb8⟩
        have HF8 : Hid (w8.ownsRow w.heap.size 28 9 (.slice A' (allF L).length c') (allF L).length (fqs (allF L)) ∧ (∀ q ∈ allF L, FqOwn w8 lo q) ∧ PathIn w8 lo p (heardS s L bh now) R next bh (Cg.goodN (els (L.map (·.1))) wd) ∧ Moved lo p w w8) :=
          ⟨own_base ho8 HM7.out.below.size, allF_own (HTD7.out.keep hb8).rows, by rw [HHS.out, HE.out]; exact HP7.out.keep hb8, HM7.out.upper (hb8.mono HM7.out.below.size) HLO.out⟩
        clear ho8 hb8 HFR
        go_wp2_with fail
        first | go_ret2 | go_ret
        exact .inr ⟨HRS.out, by rw [HGL.out, HGR.out, HBH.out]; exact ⟨A', c', rfl, HF8.out⟩⟩
      · have hk : ¬ (k.num : Int) = (bh : Int) - 1 := by simpa using hcb
        have HHS : Hid (heardS s L bh now = s) := by
          show _ = _
          unfold heardS
          rw [if_neg (fun h => hk (by rw [HKN.out]; exact h.2))]
        clear hk hcb
        have HP7 := HP5
        have HTD7 := HTD5
        have HM7 := HM5
        clear HP5 HTD5 HM5 HQ5
        have HFR := Lib.hid (HTD7.out.frames HNL.out HTL.out)
        rw [HN1.out] at HFR
        go_wp2_with fail
        refine HFR.out.mono ?_
        rintro e w8 ⟨A', c', rfl, ho8, hb8⟩
        have HF8 : Hid (w8.ownsRow w.heap.size 28 9 (.slice A' (allF L).length c') (allF L).length (fqs (allF L)) ∧ (∀ q ∈ allF L, FqOwn w8 lo q) ∧ PathIn w8 lo p (heardS s L bh now) R next bh (Cg.goodN (els (L.map (·.1))) wd) ∧ Moved lo p w w8) :=
          ⟨own_base ho8 HM7.out.below.size, allF_own (HTD7.out.keep hb8).rows, by rw [HHS.out, HE.out]; exact HP7.out.keep hb8, HM7.out.upper (hb8.mono HM7.out.below.size) HLO.out⟩
        clear ho8 hb8 HFR
        go_wp2_with fail
        first | go_ret2 | go_ret
        exact .inr ⟨HRS.out, by rw [HGL.out, HGR.out, HBH.out]; exact ⟨A', c', rfl, HF8.out⟩⟩
    · have h0I : ¬ 0 < (E : Int) := by omega
      have HP3 : Hid (PathIn w2 lo p s R next bh (Cg.goodN E wd)) := by
        obtain rfl : E = 0 := by omega
        exact HP2.out
      have HTD3 := HTD2
      have HM3 := HM2
      have HHS : Hid (heardS s L bh now = s) := by
        show _ = _
        unfold heardS
        rw [HE.out, if_neg (by omega)]
      have HP7 := HP3
      have HTD7 := HTD3
      have HM7 := HM3
      clear HP3 HTD3 HM3 HP2 HTD2 HM2
      have HFR := Lib.hid (HTD7.out.frames HNL.out HTL.out)
      go_wp2_with fail
      refine HFR.out.mono ?_
      rintro e w8 ⟨A', c', rfl, ho8, hb8⟩
      have HF8 : Hid (w8.ownsRow w.heap.size 28 9 (.slice A' (allF L).length c') (allF L).length (fqs (allF L)) ∧ (∀ q ∈ allF L, FqOwn w8 lo q) ∧ PathIn w8 lo p (heardS s L bh now) R next bh (Cg.goodN (els (L.map (·.1))) wd) ∧ Moved lo p w w8) :=
        ⟨own_base ho8 HM7.out.below.size, allF_own (HTD7.out.keep hb8).rows, by rw [HHS.out, HE.out]; exact HP7.out.keep hb8, HM7.out.upper (hb8.mono HM7.out.below.size) HLO.out⟩
      clear ho8 hb8 HFR
      go_wp2_with fail
      first | go_ret2 | go_ret
      exact .inr ⟨HRS.out, by rw [HGL.out, HGR.out, HBH.out]; exact ⟨A', c', rfl, HF8.out⟩⟩
end
end Go.Proofs.Ytebfjphmlggacaa.Pa
