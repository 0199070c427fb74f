/- The reference's path's Heard: a contract. Conditions: as each theorem lists them. -/
import Derived.Test.YtebfjphmlggacaaGreatJXg
import Derived.Test.YtebfjphmlggacaaGreatJPf
set_option linter.unusedSimpArgs false
set_option linter.unusedVariables false

namespace Go.Proofs.YtebfjphmlggacaaGreat.Xr
open Go Go.RowKit Go.Proofs.YtebfjphmlggacaaGreat Go.Proofs.YtebfjphmlggacaaGreat.Sp Go.Proofs.YtebfjphmlggacaaGreat.Ld Go.Proofs.YtebfjphmlggacaaGreat.Pa

section
variable {w w' : World} {lo p : Nat} {s : Rtt.RS} {kq : List (Pk × List Fq)} {next acked : Nat} {wd : Cg.Win}
set_option maxRecDepth 100000 in
set_option maxHeartbeats 8000000 in
theorem rheard_path (h : RPathIn w lo p s kq next acked wd) (rs : List (Int × Int)) (hm : rs.length ≤ 1000000) (A : Option Addr) (c : Nat) (hc : rs.length ≤ c) (hrd : Rd w w.heap.size A (rs.length * 2) (ints (pl rs))) (hbp : ∀ a, A = some a → a.block ≠ p) (now : Int) (hnow : -2305843009213693952 ≤ now ∧ now ≤ 2305843009213693952) (hat : ∀ x ∈ kq, -2305843009213693952 ≤ x.1.at' ∧ x.1.at' ≤ 2305843009213693952) (hn : next ≤ 1099511627776) (hac : acked ≤ next) (hkl : kq.length ≤ 1099511627776) (hnum : ∀ x ∈ kq, x.1.num ≤ 1099511627776) (htot : (Pa.allF kq).length ≤ 1099511627776) :
    Calls Tryz.prog 10 #[.pointer (some ⟨p, 0, none⟩), .slice A rs.length c, .int .i64 now] w fun e w' => ((∃ r ∈ rs, (next : Int) ≤ r.2) ∧ e = .returned (.tuple #[.slice none 0 0, .int .i64 2]) ∧ Below w.heap.size w w') ∨
      ((∀ r ∈ rs, r.2 < (next : Int)) ∧ ∃ A' c', e = .returned (.tuple #[.slice A' (Pa.allF (selK (inRs rs) kq)).length c', .int .i64 0]) ∧ w'.ownsRow w.heap.size 68 9 (.slice A' (Pa.allF (selK (inRs rs) kq)).length c') (Pa.allF (selK (inRs rs) kq)).length (fqs (Pa.allF (selK (inRs rs) kq))) ∧ (∀ q ∈ Pa.allF (selK (inRs rs) kq), FqOwn w' lo q) ∧
        RPathIn w' lo p (heardS s (selK (inRs rs) kq) (behF acked rs) now) (selK (fun k => !inRs rs k) kq) next (behF acked rs) (Cg.goodN (els ((selK (inRs rs) kq).map (·.1))) wd) ∧ w.grownBy w' (some p)) := by
  obtain ⟨cur, h1, h2, h3⟩ := h.cur
  have HKL := Lib.hid hkl
  have HTOT := Lib.hid htot
  have HN := Lib.hid hn
  have HAT := Lib.hid hat
  have HP := Lib.hid h
  have H1 := Lib.hid h1
  have HBL : Hid (∀ r ∈ rs, r.2 < (next : Int)) → behF acked rs ≤ next := fun hr => behF_le _ _ _ hac hr.out
  have HBL := Lib.hid HBL
  have HAK := Lib.hid (rack_any h2 (by rw [List.length_map]; exact hkl) hn hac (fun k hk => by
    obtain ⟨x, hx, rfl⟩ := List.mem_map.1 hk
    exact hnum x hx) rs hm A c hc hrd hbp)
  obtain ⟨hnow1, hnow2⟩ := hnow
  clear h h1 h2 h3 hkl htot hn hat hrd hbp hnum hac
  go_enter Tryz.func10, Tryz.ntmps10
  go_wp2_with fail
  refine HAK.out.mono ?_
  intro e w1 hA
  clear HAK
  rcases hA with ⟨hr, rfl, hb⟩ | ⟨hr, A1, c1, cur1, rfl, hlc, ho1, hl1, hs1, hg1⟩
  · have HE := Lib.hid (And.intro hr hb)
    clear hr hb
    go_wp2_with fail
    first | go_ret2 | go_ret
    exact .inl ⟨HE.out.1, rfl, HE.out.2⟩
  · have HRS := Lib.hid hr
    have hbn := HBL.out (Lib.hid hr)
    obtain ⟨L, hL⟩ : ∃ x, selK (inRs rs) kq = x := ⟨_, rfl⟩
    obtain ⟨R, hR⟩ : ∃ x, selK (fun k => !inRs rs k) kq = x := ⟨_, rfl⟩
    obtain ⟨bh, hbh⟩ : ∃ x, behF acked rs = x := ⟨_, rfl⟩
    have HGL := Lib.hid hL
    have HGR := Lib.hid hR
    have HBH := Lib.hid hbh
    have hLm : ((kq.map (·.1)).filter fun k => ranB rs k.num) = L.map (·.1) := by
      rw [← hL, selK_map]; rfl
    have hRm : R.map (·.1) = (kq.map (·.1)).filter fun k => !ranB rs k.num := by
      rw [← hR, selK_map]; rfl
    rw [hLm, List.length_map] at hlc ho1
    rw [hLm, List.length_map]
    rw [hbh] at hl1 hbn
    have htd : Pa.Told w1 lo w.heap.size A1 c1 L := ⟨ho1, fun x hx => (HP.out.rows x (selK_mem (by rw [hL]; exact hx))).other hg1 H1.out.1 (by decide) (by decide) (by decide), hlc⟩
    have hp1 : RPathIn w1 lo p s R next bh wd := HP.out.led H1.out hl1 hs1 hg1 hRm (fun x hx => .inl (selK_mem (by rw [hR]; exact hx)))
    have hLn : L.length ≤ 1099511627776 := by rw [← hL]; exact Nat.le_trans (selK_len _ _) HKL.out
    have hLt : (Pa.allF L).length ≤ 1099511627776 := by rw [← hL]; exact Nat.le_trans (allF_filter _ _) HTOT.out
    have HLA : Hid (∀ x ∈ L, -2305843009213693952 ≤ x.1.at' ∧ x.1.at' ≤ 2305843009213693952) := by
      rw [← hL]
      exact fun x hx => HAT.out x (selK_mem hx)
    have hbhI : (bh : Int) ≤ 1099511627776 := by have := HN.out; omega
    have HNL := Lib.hid hLn
    have HTL := Lib.hid hLt
    have HTD := Lib.hid htd
    have HP1 := Lib.hid hp1
    have HG1 := Lib.hid hg1
    have hlnI : (L.length : Int) ≤ 1099511627776 := by omega
    have hcI : (L.length : Int) ≤ (c1 : Int) := by omega
    clear hL hR hbh hLn hLt htd hp1 hg1 hlc ho1 hl1 hs1 hLm hRm hbn hr HTOT HP H1 HKL HAT HBL
    go_wp2_with fail
    go_loopw [10, 11] (fun v i wr => ∃ j n : Nat, j ≤ L.length ∧ n ≤ j ∧ i = .int .i64 (j : Int) ∧ v = .int .i64 (n : Int) ∧ Hid (n = els ((L.map (·.1)).take j)) ∧ wr = w1) (fun _ i _ => L.length - (intOf i).toNat)
    case atStart => exact ⟨0, 0, Nat.zero_le _, Nat.le_refl _, rfl, rfl, rfl, rfl⟩
    case round =>
      obtain ⟨j, n, hj, hnj, rfl, rfl, HE, hwr⟩ := hrel
      subst wr
      by_cases hlt : j < L.length
      · have hltI : (j : Int) < (L.length : Int) := by omega
        have hnjI : (n : Int) ≤ (j : Int) := by omega
        obtain ⟨k, hk⟩ : ∃ k, (L.map (·.1))[j]? = some k := ⟨_, List.getElem?_eq_getElem (by rw [List.length_map]; exact hlt)⟩
        obtain ⟨b, off, hA2, hbl, d0, d1, d2, d3⟩ := pk_cells HTD.out.rd (by rw [List.length_map]) j k hk
        subst hA2
        have HT : Hid (els ((L.map (·.1)).take (j + 1)) = els ((L.map (·.1)).take j) + (if k.el = true then 1 else 0)) := by
          show _ = _
          rw [take_one _ j k hk]
          simp only [els, List.countP_append, List.countP_cons, List.countP_nil, Nat.zero_add]
        obtain ⟨el, hel⟩ : ∃ z, k.el = z := ⟨_, rfl⟩
        rw [hel] at d2 HT
        clear hk hel d0 d1 d3
        cases el
        · go_wp2_with fail
          refine ⟨⟨j + 1, n, by omega, by omega, by go_num, rfl, by show _ = _; rw [HT.out, HE.out]; simp, trivial⟩, ?_⟩
          simp [intOf]; omega
        · go_wp2_with fail
          refine ⟨⟨j + 1, n + 1, by omega, by omega, by go_num, by go_num, by show _ = _; rw [HT.out, HE.out]; simp, trivial⟩, ?_⟩
          simp [intOf]; omega
      · have hltI : ¬ (j : Int) < (L.length : Int) := by omega
        obtain ⟨E, hEn⟩ : ∃ x, n = x := ⟨_, rfl⟩
        have HE0 : Hid (els (L.map (·.1)) = E) := by
          show _ = _
          rw [← hEn, HE.out, List.take_of_length_le (by rw [List.length_map]; omega)]
        rw [hEn] at hnj ⊢
        have hel : E ≤ L.length := by omega
        have hjL : (j : Int) = (L.length : Int) := by omega
        clear HE hEn
        have HE := HE0
        clear HE0
        obtain ⟨cur2, _, _, hw2⟩ := HP1.out.cur
        have HGD := Lib.hid (Cg.rgood_any w1 p 7 _ cur2 wd hw2 HP1.out.ok (E : Int) ⟨by omega, by omega⟩)
        have HW2 := Lib.hid hw2
        clear hw2
        go_wp2_with fail
        refine HGD.out.mono ?_
        rintro e w3 ⟨rfl, cur3, hw3, hs3, hg3⟩
        rw [Int.toNat_natCast] at hw3
        have HP3 := Lib.hid (HP1.out.win HW2.out hw3 hs3 hg3 (HP1.out.ok.goodN E))
        have HTD3 := Lib.hid (HTD.out.other hg3 HW2.out.hp (by decide) (by decide) (by decide) (by decide))
        have HG3 := Lib.hid (grown_two2 HG1.out hg3)
        clear hw3 hs3 hg3 HP1 HTD HG1 HW2 HGD
        by_cases h0 : 0 < E
        · have h0I : 0 < (E : Int) := by omega
          have hLp : 0 < L.length := by omega
          obtain ⟨n1, hn1⟩ : ∃ n1, L.length = n1 + 1 := ⟨L.length - 1, by omega⟩
          obtain ⟨b, off, k, hA, hbl, hgl, hkn, ⟨qs, hkm⟩, hc0, hc1, hc2, hc3⟩ := last_cell HTD3.out hLp
          subst hA
          rw [hn1, Nat.add_sub_cancel] at hc0 hc1 hc2 hc3
          have hkr := HLA.out _ hkm
          simp only at hkr
          have HKN := Lib.hid hkn
          have HKA : Hid (lastAt L = k.at') := by show _ = _; unfold lastAt; rw [hgl]; rfl
          have HN1 := Lib.hid hn1
          have hn1I : (n1 : Int) + 1 ≤ 1099511627776 := by omega
          have hn10 : 0 ≤ (n1 : Int) := by omega
          have hn11 : (n1 : Int) < (n1 : Int) + 1 := by omega
          have hcap : n1 + 1 ≤ c1 := by have := HTD3.out.le; omega
          have hcapI : (n1 : Int) + 1 ≤ (c1 : Int) := by omega
          have hca : w3.cell? ⟨p, 6, none⟩ = some (.int .i64 (bh : Int)) := by
            obtain ⟨cu, _, hl, _⟩ := HP3.out.cur
            exact hl.cell.2.1
          have hwn : IntKind.i64.wrap (n1 : Int) = (n1 : Int) := IntWalk.i64_in _ (by omega)
          clear hkn hgl hkm hLp
          rw [hn1]
          clear hn1 hlnI hcI hel hnj hjL hlt hltI hj
          go_wp2_with fail
          go_quiet (fail)
          obtain ⟨w5, hw5⟩ : ∃ x, w3.drewN nq = x := ⟨_, rfl⟩
          have hb5 : Below w3.heap.size w3 w5 := hw5 ▸ Below.drewN' _ _ _
          have HP5 := Lib.hid (HP3.out.keep hb5)
          have HTD5 := Lib.hid (HTD3.out.keep hb5)
          have HG5 := Lib.hid (grown_below2 HG3.out hb5)
          have hc1 : w5.cell? ⟨b, off + n1 * 4 + 1, none⟩ = some (.int .i64 k.at') := by rw [← hw5]; exact hc1
          rw [hw5]
          clear hw5 hb5 HP3 HTD3 HG3 hca hc0 hc2 hc3
          obtain ⟨cb, hcb⟩ : ∃ x, ((k.num : Int) == (bh : Int) - 1) = x := ⟨_, rfl⟩
          rw [hcb]
          cases cb
          rotate_left
          · have hk : (k.num : Int) = (bh : Int) - 1 := by simpa using hcb
            have HHS : Hid (heardS s L bh now = Rtt.samp s (now - k.at')) := by
              show _ = _
              unfold heardS
              rw [HE.out, if_pos ⟨h0, by rw [← HKN.out]; exact hk⟩, HKA.out]
            clear hk hcb
            go_wp2_with fail
            refine Rtt.still_tail 10 (by kernel_rfl) (by kernel_rfl) ?_
            intro wz hwz
            have hz1 : wz.cell? ⟨b, off + n1 * 4 + 1, none⟩ = some (.int .i64 k.at') := by rw [hwz]; exact hc1
            have hwr : IntKind.i64.wrap (now - k.at') = now - k.at' := IntWalk.i64_in _ (by omega)
            have HTD6 : Hid (Pa.Told wz lo w.heap.size (some ⟨b, off, none⟩) c1 L) := by rw [hwz]; exact HTD5.out.keep (Below.refl _ _).drew
            have HP6 : Hid (RPathIn wz lo p s R next bh (Cg.goodN E wd)) := by rw [hwz]; exact HP5.out.keep (Below.refl _ _).drew
            have HG6 : Hid (w.grownBy wz (some p)) := by rw [hwz]; exact grown_below2 HG5.out (Below.refl _ _).drew
            obtain ⟨cur6, hr6, _, _⟩ := HP6.out.cur
            have HSM := Lib.hid (Rtt.rsample_any s HP6.out.good (now - k.at') p 0 _ cur6 wz hr6)
            have HR6 := Lib.hid hr6
            clear hwz HTD5 HP5 HG5 hr6 hc1
            simp only [List.take_succ_cons, List.take_zero, List.drop_succ_cons, List.drop_zero]
            iterate 10 still_step
            refine wpStill_nil ?_
            clear hz1
            go_wp2_with fail
            refine HSM.out.mono ?_
            rintro e w7 ⟨rfl, ht7⟩
            have hp7 := HP6.out.rt HR6.out ht7 (HP6.out.good.samp _)
            have HP7 := Lib.hid hp7.1
            have HTD7 := Lib.hid (HTD6.out.other hp7.2 HR6.out.1 (by decide) (by decide) (by decide) (by decide))
            have HG7 := Lib.hid (grown_two2 HG6.out hp7.2)
            clear hp7 ht7 HP6 HTD6 HG6 HR6 HSM hwr
            have HFR := Lib.hid (rframes_any L L.length c1 (some ⟨b, off, none⟩) w7 rfl HTD7.out.rd HTD7.out.le HNL.out (fun x hx => ⟨(HTD7.out.rows x hx).len, Rd.of_own (HTD7.out.rows x hx).own⟩) HTL.out)
            rw [HN1.out] at HFR
            go_wp2_with fail
            refine HFR.out.mono ?_
            rintro e w8 ⟨A', c', rfl, ho8, hb8⟩
            have HF8 : Hid (w8.ownsRow w.heap.size 68 9 (.slice A' (Pa.allF L).length c') (Pa.allF L).length (fqs (Pa.allF L)) ∧ (∀ q ∈ Pa.allF L, FqOwn w8 lo q) ∧ RPathIn w8 lo p (heardS s L bh now) R next bh (Cg.goodN (els (L.map (·.1))) wd) ∧ w.grownBy w8 (some p)) :=
              ⟨own_base ho8 HG7.out.size, allF_own (HTD7.out.keep hb8).rows, by rw [HHS.out, HE.out]; exact HP7.out.keep hb8, grown_below2 HG7.out hb8⟩
            clear ho8 hb8 HFR
            go_wp2_with fail
            first | go_ret2 | go_ret
            exact .inr ⟨HRS.out, by rw [HGL.out, HGR.out, HBH.out]; exact ⟨A', c', rfl, HF8.out⟩⟩
          · have hk : ¬ (k.num : Int) = (bh : Int) - 1 := by simpa using hcb
            have HHS : Hid (heardS s L bh now = s) := by
              show _ = _
              unfold heardS
              rw [if_neg (fun h => hk (by rw [HKN.out]; exact h.2))]
            clear hk hcb hc1
            have HP7 := HP5
            have HTD7 := HTD5
            have HG7 := HG5
            clear HP5 HTD5 HG5
            have HFR := Lib.hid (rframes_any L L.length c1 (some ⟨b, off, none⟩) w5 rfl HTD7.out.rd HTD7.out.le HNL.out (fun x hx => ⟨(HTD7.out.rows x hx).len, Rd.of_own (HTD7.out.rows x hx).own⟩) HTL.out)
            rw [HN1.out] at HFR
            go_wp2_with fail
            refine HFR.out.mono ?_
            rintro e w8 ⟨A', c', rfl, ho8, hb8⟩
            have HF8 : Hid (w8.ownsRow w.heap.size 68 9 (.slice A' (Pa.allF L).length c') (Pa.allF L).length (fqs (Pa.allF L)) ∧ (∀ q ∈ Pa.allF L, FqOwn w8 lo q) ∧ RPathIn w8 lo p (heardS s L bh now) R next bh (Cg.goodN (els (L.map (·.1))) wd) ∧ w.grownBy w8 (some p)) :=
              ⟨own_base ho8 HG7.out.size, allF_own (HTD7.out.keep hb8).rows, by rw [HHS.out, HE.out]; exact HP7.out.keep hb8, grown_below2 HG7.out hb8⟩
            clear ho8 hb8 HFR
            go_wp2_with fail
            first | go_ret2 | go_ret
            exact .inr ⟨HRS.out, by rw [HGL.out, HGR.out, HBH.out]; exact ⟨A', c', rfl, HF8.out⟩⟩
        · have h0I : ¬ 0 < (E : Int) := by omega
          have HHS : Hid (heardS s L bh now = s) := by
            show _ = _
            unfold heardS
            rw [HE.out, if_neg (by omega)]
          go_wp2_with fail
          go_quiet (fail)
          obtain ⟨w5, hw5⟩ : ∃ x, w3.drewN nq = x := ⟨_, rfl⟩
          have hb5 : Below w3.heap.size w3 w5 := hw5 ▸ Below.drewN' _ _ _
          have HP7 := Lib.hid (HP3.out.keep hb5)
          have HTD7 := Lib.hid (HTD3.out.keep hb5)
          have HG7 := Lib.hid (grown_below2 HG3.out hb5)
          rw [hw5]
          clear hw5 hb5 HP3 HTD3 HG3
          have HFR := Lib.hid (rframes_any L L.length c1 A1 w5 rfl HTD7.out.rd HTD7.out.le HNL.out (fun x hx => ⟨(HTD7.out.rows x hx).len, Rd.of_own (HTD7.out.rows x hx).own⟩) HTL.out)
          go_wp2_with fail
          refine HFR.out.mono ?_
          rintro e w8 ⟨A', c', rfl, ho8, hb8⟩
          have HF8 : Hid (w8.ownsRow w.heap.size 68 9 (.slice A' (Pa.allF L).length c') (Pa.allF L).length (fqs (Pa.allF L)) ∧ (∀ q ∈ Pa.allF L, FqOwn w8 lo q) ∧ RPathIn w8 lo p (heardS s L bh now) R next bh (Cg.goodN (els (L.map (·.1))) wd) ∧ w.grownBy w8 (some p)) :=
            ⟨own_base ho8 HG7.out.size, allF_own (HTD7.out.keep hb8).rows, by rw [HHS.out, HE.out]; exact HP7.out.keep hb8, grown_below2 HG7.out hb8⟩
          clear ho8 hb8 HFR
          go_wp2_with fail
          first | go_ret2 | go_ret
          exact .inr ⟨HRS.out, by rw [HGL.out, HGR.out, HBH.out]; exact ⟨A', c', rfl, HF8.out⟩⟩
end
end Go.Proofs.YtebfjphmlggacaaGreat.Xr
