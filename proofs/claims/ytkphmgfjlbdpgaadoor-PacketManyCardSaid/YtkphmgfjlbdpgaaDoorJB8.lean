/- PacketBack: the walk. Conditions: as the theorem lists them. -/
import Derived.Test.YtkphmgfjlbdpgaaDoorJ10b
import Derived.Test.YtkphmgfjlbdpgaaDoorJ10c
set_option linter.unusedSimpArgs false
set_option linter.unusedVariables false

namespace Go.Proofs.YtkphmgfjlbdpgaaDoor
open Go Go.RowKit

theorem bytes_lt (key : Nat) (num acked : Int) (body : List Nat) (hb : ∀ z ∈ body, z < 256) : ∀ z ∈ packN key num acked body, z < 256 := fun z hz => by
  obtain ⟨k1, k4⟩ := kN_in num acked
  unfold packN at hz
  rcases List.mem_append.1 hz with h | h
  · exact headN_lt num _ k4 z h
  · exact Sl.closeF_lt key num _ _ hb z h
theorem pack_get0 (key : Nat) (num acked : Int) (body : List Nat) : (packN key num acked body).getD 0 0 = 63 + kN num acked := by
  have hhl := headN_len num (kN num acked)
  unfold packN
  rw [getN_app_left _ _ _ (by omega)]
  rfl
theorem own_at {w : World} {base e size n : Nat} {v : Value} {xs : List Value} (h : w.ownsRow base e size v n xs) (hn : 0 < n) (hs : 0 < size) : ∃ g c, v = .slice (some ⟨g, 0, none⟩) n c ∧ base ≤ g := by
  rcases h.2 with ⟨rfl, rfl⟩ | ⟨g, cap, cur, rfl, hb, _⟩
  · have := h.1
    simp at this
    rcases this with h | h <;> omega
  · exact ⟨g, cap, rfl, hb⟩

set_option maxRecDepth 100000 in
set_option maxHeartbeats 4000000 in
theorem pback_walk (key other : Nat) (acked_ far_ next_ : Int) (A : Option Addr) (n c : Nat) (rs : List Rw) (at_ : Int) (by_ : Nat) (w : World) (hkey : key < 2 ^ 64) (hoth : other < 2 ^ 64) (hby : by_ < 256) (hL : laidMetH Tryd.prog laids w) (hr : IsRaws w A c n rs) :
    Calls Tryd.prog 9 #[.int .u64 (key : Int), .int .u64 (other : Int), .int .i64 acked_, .int .i64 far_, .int .i64 next_, .slice A n c, .int .i64 at_, .int .u8 (by_ : Int)] w fun e w' => e = .returned (.bool true) ∧ Below w.heap.size w w' := by
  have HLd := Lib.hid hL
  have HRi := Lib.hid (hright_any 2 (by decide) rs A n c w hr)
  have HK1 := Lib.hid hkey
  have HK2 := Lib.hid hoth
  have HBY := Lib.hid hby
  have P1 := Lib.hid (fun W => pick_any acked_ 1073741824 W (by decide) (by decide))
  have P2 := Lib.hid (fun W => pick_any far_ 65536 W (by decide) (by decide))
  obtain ⟨a, ha⟩ : ∃ x, acked_ % 1073741824 = x := ⟨_, rfl⟩
  obtain ⟨d, hd⟩ : ∃ x, far_ % 65536 = x := ⟨_, rfl⟩
  have a0 : 0 ≤ a := by omega
  have a1 : a < 1073741824 := by omega
  have d0 : 0 ≤ d := by omega
  have d1 : d < 65536 := by omega
  rw [ha] at P1
  rw [hd] at P2
  have P3 := Lib.hid (fun W => pick_any next_ (1 + d) W (by omega) (by omega))
  have q0 := Int.emod_nonneg next_ (show (1 + d) ≠ 0 by omega)
  have q1 := Int.emod_lt_of_pos next_ (show 0 < 1 + d by omega)
  obtain ⟨q, hq⟩ : ∃ x, next_ % (1 + d) = x := ⟨_, rfl⟩
  rw [hq] at P3 q0 q1
  clear hL hr hkey hoth hby ha hd hq
  go_enter Tryd.func9, Tryd.ntmps9
  go_wp2_with fail
  refine (P1.out _).mono ?_; rintro e w' ⟨rfl, rfl⟩
  go_wp2_with fail
  refine (P2.out _).mono ?_; rintro e w' ⟨rfl, rfl⟩
  go_wp2_with fail
  refine HRi.out.mono ?_
  rintro e w1 ⟨A1, n1, c1, fs, rfl, hfl, hn8, hok, hown, hbw⟩
  have HFL := Lib.hid hfl
  have HOK := Lib.hid hok
  have HF1 := Lib.hid (hown.frs hfl)
  have HB1 := Lib.hid hbw
  have hci : (n1 : Int) ≤ (c1 : Int) := by have := HF1.out.2.1; omega
  have hni : (n1 : Int) ≤ 2 := by omega
  clear hfl hok hown hbw HRi
  obtain ⟨ac, hac⟩ : ∃ x, a - 1 = x := ⟨_, rfl⟩
  rw [hac]
  obtain ⟨num, hnum⟩ : ∃ x, ac + (1 + d) = x := ⟨_, rfl⟩
  rw [hnum]
  have b0 : -1 ≤ ac := by omega
  have b1 : ac < num := by omega
  have b2 : num ≤ 1073807360 := by omega
  have b3 : ac + 1 + q ≤ num := by omega
  obtain ⟨k1, k4⟩ := kN_in num ac
  have HLA := Lib.hid (pkLay_any key num ac fs A1 n1 c1 w1 (tabs_of HLd.out HB1.out) HF1.out HOK.out (by omega) HK1.out b0 b1 (by omega))
  have HBN : Hid (Pn.backF (Pn.cutF num (kN num ac : Int)) (kN num ac : Int) (ac + 1 + q) = num) := by
    have := digs_back num ac (ac + 1 + q) (by omega) (by omega) (by omega) (by omega) (by omega)
    rwa [valN_digs _ _ k4 (cutN_lt num _ k1 k4), ← cutN_eq] at this
  have HBL : Hid (∀ x ∈ layF fs, x < 256) := fun x hx => by
    obtain ⟨f, hf, hx⟩ := List.mem_flatMap.1 hx
    exact encF_lt (HOK.out f hf) x hx
  have HLL : Hid ((layF fs).length ≤ 624) := by
    have := layF_len HOK.out
    have h2 := HFL.out
    show _ ≤ _
    omega
  have HRL : Hid (∀ (A : Option Addr) (c : Nat) (W : World), Rd W W.heap.size A (kN num ac + 9 + (layF fs).length) (bv (packN key num ac (layF fs))) → kN num ac + 9 + (layF fs).length ≤ c → Calls Tryd.prog 22 #[.int .u64 (key : Int), .int .i64 (ac + 1 + q), .slice A (kN num ac + 9 + (layF fs).length) c] W fun e w' => Below W.heap.size W w' ∧
      (fs = [] → e = .returned (.tuple #[.int .i64 num, .slice none 0 0, .int .i64 11])) ∧
      (fs ≠ [] → ∃ A c, e = .returned (.tuple #[.int .i64 num, .slice A fs.length c, .int .i64 0]) ∧ FrsOwn w' W.heap.size (.slice A fs.length c) (fs.map bare))) := fun A c W h1 h2 =>
    pkRead_laid key num ac (ac + 1 + q) fs A c W HOK.out HK1.out HBN.out h1 h2 (by have := HLL.out; omega)
  have HRO : Hid (other ≠ key → ∀ (A : Option Addr) (c : Nat) (W : World), Rd W W.heap.size A (kN num ac + 9 + (layF fs).length) (bv (packN key num ac (layF fs))) → kN num ac + 9 + (layF fs).length ≤ c → Calls Tryd.prog 22 #[.int .u64 (other : Int), .int .i64 (ac + 1 + q), .slice A (kN num ac + 9 + (layF fs).length) c] W fun e w' => e = .returned (.tuple #[.int .i64 0, .slice none 0 0, .int .i64 4]) ∧ Below W.heap.size W w') := fun hne A c W h1 h2 =>
    pkRead_other key other num ac (ac + 1 + q) (layF fs) A c W HBL.out HK1.out HK2.out hne HBN.out h1 h2 (by have := HLL.out; omega)
  have HRT : Hid (∀ (j x : Nat) (A : Option Addr) (c : Nat) (W : World), kN num ac + 1 ≤ j → j < kN num ac + 9 + (layF fs).length → x < 256 → (packN key num ac (layF fs)).getD j 0 ≠ x → Rd W W.heap.size A (kN num ac + 9 + (layF fs).length) (bv ((packN key num ac (layF fs)).set j x)) → kN num ac + 9 + (layF fs).length ≤ c → Calls Tryd.prog 22 #[.int .u64 (key : Int), .int .i64 (ac + 1 + q), .slice A (kN num ac + 9 + (layF fs).length) c] W fun e w' => e = .returned (.tuple #[.int .i64 0, .slice none 0 0, .int .i64 4]) ∧ Below W.heap.size W w') := fun j x A c W h1 h2 h3 h4 h5 h6 =>
    pkRead_turned key num ac (ac + 1 + q) (layF fs) j x A c W HBL.out HK1.out HBN.out h1 h2 h3 h4 h5 h6 (by have := HLL.out; omega)
  have HPL := Lib.hid (bytes_lt key num ac (layF fs) HBL.out)
  have HPN := Lib.hid (packN_len key num ac (layF fs))
  have HP0 := Lib.hid (pack_get0 key num ac (layF fs))
  have HKN : Hid (∀ W, Below w.heap.size w W → Calls Tryd.prog 23 #[] W fun e w' => e = .returned (.bool true) ∧ Below W.heap.size W w') := fun W hW => known6_any HLd.out hW
  unfold PkP at HLA
  obtain ⟨bl, hbl⟩ : ∃ x, (layF fs).length = x := ⟨_, rfl⟩
  obtain ⟨pk, hpk⟩ : ∃ x, packN key num ac (layF fs) = x := ⟨_, rfl⟩
  obtain ⟨k, hk⟩ : ∃ x, kN num ac = x := ⟨_, rfl⟩
  rw [hbl] at HLA HRL HRO HRT HLL HPN
  rw [hpk] at HLA HRL HRO HRT HPL HPN HP0
  rw [hk] at HLA HRL HRO HRT HPN HP0 k1 k4
  have hb624 := HLL.out
  clear hbl hpk hk hac hnum HBN HBL
  go_wp2_with fail
  refine HLA.out.mono ?_
  rintro e w2 ⟨hb2, h2, h3⟩
  have HB2 : Hid (Below w1.heap.size w1 w2) := hb2
  have HW2 : Hid (Below w.heap.size w w2) := HB1.out.trans (hb2.mono HB1.out.size)
  by_cases hfit : (bl : Int) ≤ 231 - (k : Int)
  · obtain ⟨Ap, cp, rfl, hown⟩ := h2 hfit
    obtain ⟨L, hL⟩ : ∃ x, k + 9 + bl = x := ⟨_, rfl⟩
    rw [hL] at hown HRL HRO HRT HPN ⊢
    obtain ⟨_, _, ev, hnc, _, _, hrd⟩ := own_form hown
    simp only [Value.slice.injEq] at ev
    obtain ⟨rfl, _, rfl⟩ := ev
    rw [Nat.mul_one] at hrd
    have HRD := Lib.hid hrd
    have HNC := Lib.hid hnc
    have hL0 : 10 ≤ L := by omega
    have hL1 : L ≤ 240 := by omega
    have hkL : k + 1 + 8 ≤ L := by omega
    have hLi0 : ¬ (L : Int) < 1 := by omega
    have hLi1 : ¬ (240 : Int) < (L : Int) := by omega
    have hLk : ¬ (L : Int) ≤ 63 + (k : Int) - 62 := by omega
    obtain ⟨bb, off, rfl, hbb, hcell⟩ := hrd.2 (by omega)
    have HC0 : Hid (∀ W, Below w2.heap.size w2 W → W.cell? ⟨bb, off, none⟩ = some (.int .u8 (63 + (k : Int)))) := fun W hW => by
      have := hcell 0 _ (bv_get pk 0 (by rw [HPN.out]; omega))
      rw [HP0.out] at this
      exact (hW.cell (p := ⟨bb, off, none⟩) hbb).trans (by simpa using this)
    have HRW : Hid (∀ W, Below w2.heap.size w2 W → Rd W W.heap.size (some ⟨bb, off, none⟩) L (bv pk)) := fun W hW => (HRD.out.below hW (Nat.le_refl _)).more hW.size
    have hcpi : (L : Int) ≤ (cp : Int) := by have := HNC.out; omega
    clear h2 h3 hb2 hown hrd hnc HLA hcell hbb
    go_wp2_with fail
    refine (P3.out _).mono ?_; rintro e w' ⟨rfl, rfl⟩
    go_wp2_with fail
    refine (HRL.out _ _ w2 (HRW.out w2 (Below.refl _ _)) HNC.out).mono ?_
    rintro e w3 ⟨hb3, r1, r2⟩
    have H23 : Hid (Below w2.heap.size w2 w3) := hb3
    have HW3 : Hid (Below w.heap.size w w3) := HW2.out.trans (hb3.mono HW2.out.size)
    clear hb3
    by_cases hfs : fs = []
    · have hn0 : n1 = 0 := by rw [← HFL.out, hfs]; rfl
      subst hn0
      have he := r1 hfs
      subst he
      clear r1 r2
      go_wp2_with fail
      refine (HKN.out _ HW3.out).mono ?_
      rintro e w4 ⟨rfl, hb⟩
      have H24 : Hid (Below w2.heap.size w2 w4) := H23.out.trans (hb.mono H23.out.size)
      have HW4 : Hid (Below w.heap.size w w4) := HW3.out.trans (hb.mono HW3.out.size)
      clear hb
      go_wp2_with fail
      by_cases hko : other = key
      · subst hko
        refine (HRL.out _ _ w4 (HRW.out w4 H24.out) HNC.out).mono ?_
        rintro e w5 ⟨hb5, r1, r2⟩
        have H25 : Hid (Below w2.heap.size w2 w5) := H24.out.trans (hb5.mono H24.out.size)
        have HW5 : Hid (Below w.heap.size w w5) := HW4.out.trans (hb5.mono HW4.out.size)
        clear hb5
        have he := r1 hfs
        subst he
        clear r1 r2
        have g0 := HC0.out w5 H25.out
        by_cases hy : by_ = 0
        · subst hy
          go_wp2_with fail
          go_ret
          exact ⟨ret_bool (by simp), HW5.out⟩
        · have hyi : ((by_ : Int) == 0) = false := by simp; omega
          have HFW := few_any pk w5.heap.size (some ⟨bb, off, none⟩) cp L w5 (by rw [HPN.out]; exact HRW.out w5 H25.out) (Nat.le_refl _) (by rw [HPN.out]; exact HNC.out) (by rw [HPN.out]; omega)
          rw [List.take_of_length_le (by rw [HPN.out]; exact Nat.le_refl _), HPN.out] at HFW
          have HFW := Lib.hid HFW
          go_wp2_with fail
          refine HFW.out.mono ?_
          rintro e w6 ⟨v6, rfl, ho6, hb6⟩
          have H26 : Hid (Below w2.heap.size w2 w6) := H25.out.trans (hb6.mono H25.out.size)
          have HW6 : Hid (Below w.heap.size w w6) := HW5.out.trans (hb6.mono HW5.out.size)
          obtain ⟨g, c6, rfl, hge⟩ := own_at ho6 (by omega) (by decide)
          have HO6 := Lib.hid ho6
          have hfz := HO6.out.frozenAt
          clear g0 hb6 ho6 HFW
          have g0 := HC0.out w6 H26.out
          have hLc6 : (L : Int) ≤ (c6 : Int) := by
            obtain ⟨_, _, ev, hnc, _⟩ := own_form HO6.out
            simp only [Value.slice.injEq] at ev
            omega
          have P4 := Lib.hid (fun W => pick_any at_ ((L : Int) - (63 + (k : Int) - 62)) W (by omega) (by omega))
          have j0 := Int.emod_nonneg at_ (show ((L : Int) - (63 + (k : Int) - 62)) ≠ 0 by omega)
          have j1 := Int.emod_lt_of_pos at_ (show 0 < ((L : Int) - (63 + (k : Int) - 62)) by omega)
          obtain ⟨J, hJ⟩ : ∃ J : Nat, at_ % ((L : Int) - (63 + (k : Int) - 62)) = (J : Int) := ⟨(at_ % ((L : Int) - (63 + (k : Int) - 62))).toNat, by omega⟩
          rw [hJ] at P4 j0 j1
          clear hJ
          go_wp2_with fail
          refine (P4.out _).mono ?_; rintro e w' ⟨rfl, rfl⟩
          have ej : (63 + (k : Int) - 62) = ((k + 1 : Nat) : Int) := by omega
          rw [ej]
          have hjL : (k + 1 + J) < L := by omega
          have hjk : k + 1 ≤ (k + 1 + J) := by omega
          have hx := getD_lt HPL.out (k + 1 + J)
          have hcell : w6.cell? ⟨g, (k + 1 + J), none⟩ = some (.int .u8 ((pk.getD (k + 1 + J) 0 : Nat) : Int)) := by
            rw [HO6.out.cellAt (k + 1 + J) (by omega)]
            exact bv_get pk (k + 1 + J) (by rw [HPN.out]; exact hjL)
          have hfj := hfz (k + 1 + J)
          have HX : Hid (bits .xor .u8 ((pk.getD (k + 1 + J) 0 : Nat) : Int) (by_ : Int) = ((pk.getD (k + 1 + J) 0 ^^^ by_ : Nat) : Int)) := u8_xor_nat _ _ hx HBY.out
          have HRS := Lib.hid (HRT.out (k + 1 + J) (pk.getD (k + 1 + J) 0 ^^^ by_) (some ⟨g, 0, none⟩) c6 (w6.setCell ⟨g, (k + 1 + J), none⟩ (.int .u8 ((pk.getD (k + 1 + J) 0 ^^^ by_ : Nat) : Int))) hjk hjL (Nat.xor_lt_two_pow (n := 8) hx HBY.out) (Sl.xor_ne hy) (by
            have := (HO6.out.stored (k + 1 + J) (.int .u8 ((pk.getD (k + 1 + J) 0 ^^^ by_ : Nat) : Int))).1
            have e : (bv pk).set (k + 1 + J) (.int .u8 ((pk.getD (k + 1 + J) 0 ^^^ by_ : Nat) : Int)) = bv (pk.set (k + 1 + J) (pk.getD (k + 1 + J) 0 ^^^ by_)) := by simp [bv, List.map_set]
            rw [e] at this
            obtain ⟨_, _, ev, _, _, _, hrd⟩ := own_form this
            simp only [Value.slice.injEq] at ev
            obtain ⟨rfl, _, rfl⟩ := ev
            rw [Nat.mul_one] at hrd
            exact hrd) (by omega))
          have HWS : Hid (Below w.heap.size w (w6.setCell ⟨g, (k + 1 + J), none⟩ (.int .u8 ((pk.getD (k + 1 + J) 0 ^^^ by_ : Nat) : Int)))) := HW6.out.setCell (Nat.le_trans HW5.out.size hge) _
          have hjLi : (k : Int) + 1 + (J : Int) < (L : Int) := by omega
          have hjLn : k + 1 + J < L := by omega
          obtain ⟨xb, hxb⟩ : ∃ x, pk.getD (k + 1 + J) 0 = x := ⟨_, rfl⟩
          rw [hxb] at hcell HX HRS HWS
          clear hxb hx hfz j0 j1 ej
          go_wp2_with fail
          rw [HX.out]
          refine HRS.out.mono ?_
          rintro e w7 ⟨rfl, hb7⟩
          have HW7 : Hid (Below w.heap.size w w7) := HWS.out.trans (hb7.mono HWS.out.size)
          clear hb7
          go_wp2_with fail
          go_ret
          exact ⟨ret_bool (by simp), HW7.out⟩
      · have hkoi : ((other : Int) != (key : Int)) = true := by simp; omega
        refine (HRO.out hko _ _ w4 (HRW.out w4 H24.out) HNC.out).mono ?_
        rintro e w5 ⟨rfl, hb5⟩
        have H25 : Hid (Below w2.heap.size w2 w5) := H24.out.trans (hb5.mono H24.out.size)
        have HW5 : Hid (Below w.heap.size w w5) := HW4.out.trans (hb5.mono HW4.out.size)
        clear hb5
        have g0 := HC0.out w5 H25.out
        by_cases hy : by_ = 0
        · subst hy
          go_wp2_with fail
          go_ret
          exact ⟨ret_bool (by simp), HW5.out⟩
        · have hyi : ((by_ : Int) == 0) = false := by simp; omega
          have HFW := few_any pk w5.heap.size (some ⟨bb, off, none⟩) cp L w5 (by rw [HPN.out]; exact HRW.out w5 H25.out) (Nat.le_refl _) (by rw [HPN.out]; exact HNC.out) (by rw [HPN.out]; omega)
          rw [List.take_of_length_le (by rw [HPN.out]; exact Nat.le_refl _), HPN.out] at HFW
          have HFW := Lib.hid HFW
          go_wp2_with fail
          refine HFW.out.mono ?_
          rintro e w6 ⟨v6, rfl, ho6, hb6⟩
          have H26 : Hid (Below w2.heap.size w2 w6) := H25.out.trans (hb6.mono H25.out.size)
          have HW6 : Hid (Below w.heap.size w w6) := HW5.out.trans (hb6.mono HW5.out.size)
          obtain ⟨g, c6, rfl, hge⟩ := own_at ho6 (by omega) (by decide)
          have HO6 := Lib.hid ho6
          have hfz := HO6.out.frozenAt
          clear g0 hb6 ho6 HFW
          have g0 := HC0.out w6 H26.out
          have hLc6 : (L : Int) ≤ (c6 : Int) := by
            obtain ⟨_, _, ev, hnc, _⟩ := own_form HO6.out
            simp only [Value.slice.injEq] at ev
            omega
          have P4 := Lib.hid (fun W => pick_any at_ ((L : Int) - (63 + (k : Int) - 62)) W (by omega) (by omega))
          have j0 := Int.emod_nonneg at_ (show ((L : Int) - (63 + (k : Int) - 62)) ≠ 0 by omega)
          have j1 := Int.emod_lt_of_pos at_ (show 0 < ((L : Int) - (63 + (k : Int) - 62)) by omega)
          obtain ⟨J, hJ⟩ : ∃ J : Nat, at_ % ((L : Int) - (63 + (k : Int) - 62)) = (J : Int) := ⟨(at_ % ((L : Int) - (63 + (k : Int) - 62))).toNat, by omega⟩
          rw [hJ] at P4 j0 j1
          clear hJ
          go_wp2_with fail
          refine (P4.out _).mono ?_; rintro e w' ⟨rfl, rfl⟩
          have ej : (63 + (k : Int) - 62) = ((k + 1 : Nat) : Int) := by omega
          rw [ej]
          have hjL : (k + 1 + J) < L := by omega
          have hjk : k + 1 ≤ (k + 1 + J) := by omega
          have hx := getD_lt HPL.out (k + 1 + J)
          have hcell : w6.cell? ⟨g, (k + 1 + J), none⟩ = some (.int .u8 ((pk.getD (k + 1 + J) 0 : Nat) : Int)) := by
            rw [HO6.out.cellAt (k + 1 + J) (by omega)]
            exact bv_get pk (k + 1 + J) (by rw [HPN.out]; exact hjL)
          have hfj := hfz (k + 1 + J)
          have HX : Hid (bits .xor .u8 ((pk.getD (k + 1 + J) 0 : Nat) : Int) (by_ : Int) = ((pk.getD (k + 1 + J) 0 ^^^ by_ : Nat) : Int)) := u8_xor_nat _ _ hx HBY.out
          have HRS := Lib.hid (HRT.out (k + 1 + J) (pk.getD (k + 1 + J) 0 ^^^ by_) (some ⟨g, 0, none⟩) c6 (w6.setCell ⟨g, (k + 1 + J), none⟩ (.int .u8 ((pk.getD (k + 1 + J) 0 ^^^ by_ : Nat) : Int))) hjk hjL (Nat.xor_lt_two_pow (n := 8) hx HBY.out) (Sl.xor_ne hy) (by
            have := (HO6.out.stored (k + 1 + J) (.int .u8 ((pk.getD (k + 1 + J) 0 ^^^ by_ : Nat) : Int))).1
            have e : (bv pk).set (k + 1 + J) (.int .u8 ((pk.getD (k + 1 + J) 0 ^^^ by_ : Nat) : Int)) = bv (pk.set (k + 1 + J) (pk.getD (k + 1 + J) 0 ^^^ by_)) := by simp [bv, List.map_set]
            rw [e] at this
            obtain ⟨_, _, ev, _, _, _, hrd⟩ := own_form this
            simp only [Value.slice.injEq] at ev
            obtain ⟨rfl, _, rfl⟩ := ev
            rw [Nat.mul_one] at hrd
            exact hrd) (by omega))
          have HWS : Hid (Below w.heap.size w (w6.setCell ⟨g, (k + 1 + J), none⟩ (.int .u8 ((pk.getD (k + 1 + J) 0 ^^^ by_ : Nat) : Int)))) := HW6.out.setCell (Nat.le_trans HW5.out.size hge) _
          have hjLi : (k : Int) + 1 + (J : Int) < (L : Int) := by omega
          have hjLn : k + 1 + J < L := by omega
          obtain ⟨xb, hxb⟩ : ∃ x, pk.getD (k + 1 + J) 0 = x := ⟨_, rfl⟩
          rw [hxb] at hcell HX HRS HWS
          clear hxb hx hfz j0 j1 ej
          go_wp2_with fail
          rw [HX.out]
          refine HRS.out.mono ?_
          rintro e w7 ⟨rfl, hb7⟩
          have HW7 : Hid (Below w.heap.size w w7) := HWS.out.trans (hb7.mono HWS.out.size)
          clear hb7
          go_wp2_with fail
          go_ret
          exact ⟨ret_bool (by simp), HW7.out⟩
    · have hn0 : 0 < n1 := by
        rw [← HFL.out]
        exact List.length_pos_iff.2 hfs
      have hn0i : (0 : Int) < (n1 : Int) := by omega
      have hn0j : ¬ (n1 : Int) = 0 := by omega
      obtain ⟨Ag, cg, he, hog⟩ := r2 hfs
      subst he
      have hfl := HFL.out
      have HOG := Lib.hid (hog.frs (by rw [List.length_map]))
      rw [hfl] at HOG ⊢
      clear r1 r2 hog hfl
      go_wp2_with fail
      refine (HKN.out _ HW3.out).mono ?_
      rintro e w3b ⟨rfl, hb⟩
      have H23b : Hid (Below w2.heap.size w2 w3b) := H23.out.trans (hb.mono H23.out.size)
      have HW3b : Hid (Below w.heap.size w w3b) := HW3.out.trans (hb.mono HW3.out.size)
      have HGb : Hid (Frs w3b Ag n1 cg (fs.map bare)) := HOG.out.below hb
      have HFb : Hid (Frs w3b A1 n1 c1 fs) := HF1.out.below (HB2.out.trans (H23b.out.mono HB2.out.size))
      have hsp : ∀ f ∈ fs, f.spans.length ≤ 16 := fun f hf => by obtain ⟨m, hm, hs⟩ := (HOK.out f hf).sps; have := hs.1; omega
      have HSA := Lib.hid (rsames_same fs (fs.map bare) (by rw [List.map_map]; rfl) A1 Ag n1 c1 cg w3b HFb.out HGb.out (by omega) hsp)
      clear hb hsp
      go_wp2_with fail
      refine HSA.out.mono ?_
      rintro e w4 ⟨rfl, hb⟩
      have H24 : Hid (Below w2.heap.size w2 w4) := H23b.out.trans (hb.mono H23b.out.size)
      have HW4 : Hid (Below w.heap.size w w4) := HW3b.out.trans (hb.mono HW3b.out.size)
      clear hb HSA HGb HFb HOG
      go_wp2_with fail
      by_cases hko : other = key
      · subst hko
        refine (HRL.out _ _ w4 (HRW.out w4 H24.out) HNC.out).mono ?_
        rintro e w5 ⟨hb5, r1, r2⟩
        have H25 : Hid (Below w2.heap.size w2 w5) := H24.out.trans (hb5.mono H24.out.size)
        have HW5 : Hid (Below w.heap.size w w5) := HW4.out.trans (hb5.mono HW4.out.size)
        clear hb5
        obtain ⟨Ah, ch, he, _⟩ := r2 hfs
        subst he
        clear r1 r2
        have g0 := HC0.out w5 H25.out
        by_cases hy : by_ = 0
        · subst hy
          go_wp2_with fail
          go_ret
          exact ⟨ret_bool (by simp), HW5.out⟩
        · have hyi : ((by_ : Int) == 0) = false := by simp; omega
          have HFW := few_any pk w5.heap.size (some ⟨bb, off, none⟩) cp L w5 (by rw [HPN.out]; exact HRW.out w5 H25.out) (Nat.le_refl _) (by rw [HPN.out]; exact HNC.out) (by rw [HPN.out]; omega)
          rw [List.take_of_length_le (by rw [HPN.out]; exact Nat.le_refl _), HPN.out] at HFW
          have HFW := Lib.hid HFW
          go_wp2_with fail
          refine HFW.out.mono ?_
          rintro e w6 ⟨v6, rfl, ho6, hb6⟩
          have H26 : Hid (Below w2.heap.size w2 w6) := H25.out.trans (hb6.mono H25.out.size)
          have HW6 : Hid (Below w.heap.size w w6) := HW5.out.trans (hb6.mono HW5.out.size)
          obtain ⟨g, c6, rfl, hge⟩ := own_at ho6 (by omega) (by decide)
          have HO6 := Lib.hid ho6
          have hfz := HO6.out.frozenAt
          clear g0 hb6 ho6 HFW
          have g0 := HC0.out w6 H26.out
          have hLc6 : (L : Int) ≤ (c6 : Int) := by
            obtain ⟨_, _, ev, hnc, _⟩ := own_form HO6.out
            simp only [Value.slice.injEq] at ev
            omega
          have P4 := Lib.hid (fun W => pick_any at_ ((L : Int) - (63 + (k : Int) - 62)) W (by omega) (by omega))
          have j0 := Int.emod_nonneg at_ (show ((L : Int) - (63 + (k : Int) - 62)) ≠ 0 by omega)
          have j1 := Int.emod_lt_of_pos at_ (show 0 < ((L : Int) - (63 + (k : Int) - 62)) by omega)
          obtain ⟨J, hJ⟩ : ∃ J : Nat, at_ % ((L : Int) - (63 + (k : Int) - 62)) = (J : Int) := ⟨(at_ % ((L : Int) - (63 + (k : Int) - 62))).toNat, by omega⟩
          rw [hJ] at P4 j0 j1
          clear hJ
          go_wp2_with fail
          refine (P4.out _).mono ?_; rintro e w' ⟨rfl, rfl⟩
          have ej : (63 + (k : Int) - 62) = ((k + 1 : Nat) : Int) := by omega
          rw [ej]
          have hjL : (k + 1 + J) < L := by omega
          have hjk : k + 1 ≤ (k + 1 + J) := by omega
          have hx := getD_lt HPL.out (k + 1 + J)
          have hcell : w6.cell? ⟨g, (k + 1 + J), none⟩ = some (.int .u8 ((pk.getD (k + 1 + J) 0 : Nat) : Int)) := by
            rw [HO6.out.cellAt (k + 1 + J) (by omega)]
            exact bv_get pk (k + 1 + J) (by rw [HPN.out]; exact hjL)
          have hfj := hfz (k + 1 + J)
          have HX : Hid (bits .xor .u8 ((pk.getD (k + 1 + J) 0 : Nat) : Int) (by_ : Int) = ((pk.getD (k + 1 + J) 0 ^^^ by_ : Nat) : Int)) := u8_xor_nat _ _ hx HBY.out
          have HRS := Lib.hid (HRT.out (k + 1 + J) (pk.getD (k + 1 + J) 0 ^^^ by_) (some ⟨g, 0, none⟩) c6 (w6.setCell ⟨g, (k + 1 + J), none⟩ (.int .u8 ((pk.getD (k + 1 + J) 0 ^^^ by_ : Nat) : Int))) hjk hjL (Nat.xor_lt_two_pow (n := 8) hx HBY.out) (Sl.xor_ne hy) (by
            have := (HO6.out.stored (k + 1 + J) (.int .u8 ((pk.getD (k + 1 + J) 0 ^^^ by_ : Nat) : Int))).1
            have e : (bv pk).set (k + 1 + J) (.int .u8 ((pk.getD (k + 1 + J) 0 ^^^ by_ : Nat) : Int)) = bv (pk.set (k + 1 + J) (pk.getD (k + 1 + J) 0 ^^^ by_)) := by simp [bv, List.map_set]
            rw [e] at this
            obtain ⟨_, _, ev, _, _, _, hrd⟩ := own_form this
            simp only [Value.slice.injEq] at ev
            obtain ⟨rfl, _, rfl⟩ := ev
            rw [Nat.mul_one] at hrd
            exact hrd) (by omega))
          have HWS : Hid (Below w.heap.size w (w6.setCell ⟨g, (k + 1 + J), none⟩ (.int .u8 ((pk.getD (k + 1 + J) 0 ^^^ by_ : Nat) : Int)))) := HW6.out.setCell (Nat.le_trans HW5.out.size hge) _
          have hjLi : (k : Int) + 1 + (J : Int) < (L : Int) := by omega
          have hjLn : k + 1 + J < L := by omega
          obtain ⟨xb, hxb⟩ : ∃ x, pk.getD (k + 1 + J) 0 = x := ⟨_, rfl⟩
          rw [hxb] at hcell HX HRS HWS
          clear hxb hx hfz j0 j1 ej
          go_wp2_with fail
          rw [HX.out]
          refine HRS.out.mono ?_
          rintro e w7 ⟨rfl, hb7⟩
          have HW7 : Hid (Below w.heap.size w w7) := HWS.out.trans (hb7.mono HWS.out.size)
          clear hb7
          go_wp2_with fail
          go_ret
          exact ⟨ret_bool (by simp), HW7.out⟩
      · have hkoi : ((other : Int) != (key : Int)) = true := by simp; omega
        refine (HRO.out hko _ _ w4 (HRW.out w4 H24.out) HNC.out).mono ?_
        rintro e w5 ⟨rfl, hb5⟩
        have H25 : Hid (Below w2.heap.size w2 w5) := H24.out.trans (hb5.mono H24.out.size)
        have HW5 : Hid (Below w.heap.size w w5) := HW4.out.trans (hb5.mono HW4.out.size)
        clear hb5
        have g0 := HC0.out w5 H25.out
        by_cases hy : by_ = 0
        · subst hy
          go_wp2_with fail
          go_ret
          exact ⟨ret_bool (by simp), HW5.out⟩
        · have hyi : ((by_ : Int) == 0) = false := by simp; omega
          have HFW := few_any pk w5.heap.size (some ⟨bb, off, none⟩) cp L w5 (by rw [HPN.out]; exact HRW.out w5 H25.out) (Nat.le_refl _) (by rw [HPN.out]; exact HNC.out) (by rw [HPN.out]; omega)
          rw [List.take_of_length_le (by rw [HPN.out]; exact Nat.le_refl _), HPN.out] at HFW
          have HFW := Lib.hid HFW
          go_wp2_with fail
          refine HFW.out.mono ?_
          rintro e w6 ⟨v6, rfl, ho6, hb6⟩
          have H26 : Hid (Below w2.heap.size w2 w6) := H25.out.trans (hb6.mono H25.out.size)
          have HW6 : Hid (Below w.heap.size w w6) := HW5.out.trans (hb6.mono HW5.out.size)
          obtain ⟨g, c6, rfl, hge⟩ := own_at ho6 (by omega) (by decide)
          have HO6 := Lib.hid ho6
          have hfz := HO6.out.frozenAt
          clear g0 hb6 ho6 HFW
          have g0 := HC0.out w6 H26.out
          have hLc6 : (L : Int) ≤ (c6 : Int) := by
            obtain ⟨_, _, ev, hnc, _⟩ := own_form HO6.out
            simp only [Value.slice.injEq] at ev
            omega
          have P4 := Lib.hid (fun W => pick_any at_ ((L : Int) - (63 + (k : Int) - 62)) W (by omega) (by omega))
          have j0 := Int.emod_nonneg at_ (show ((L : Int) - (63 + (k : Int) - 62)) ≠ 0 by omega)
          have j1 := Int.emod_lt_of_pos at_ (show 0 < ((L : Int) - (63 + (k : Int) - 62)) by omega)
          obtain ⟨J, hJ⟩ : ∃ J : Nat, at_ % ((L : Int) - (63 + (k : Int) - 62)) = (J : Int) := ⟨(at_ % ((L : Int) - (63 + (k : Int) - 62))).toNat, by omega⟩
          rw [hJ] at P4 j0 j1
          clear hJ
          go_wp2_with fail
          refine (P4.out _).mono ?_; rintro e w' ⟨rfl, rfl⟩
          have ej : (63 + (k : Int) - 62) = ((k + 1 : Nat) : Int) := by omega
          rw [ej]
          have hjL : (k + 1 + J) < L := by omega
          have hjk : k + 1 ≤ (k + 1 + J) := by omega
          have hx := getD_lt HPL.out (k + 1 + J)
          have hcell : w6.cell? ⟨g, (k + 1 + J), none⟩ = some (.int .u8 ((pk.getD (k + 1 + J) 0 : Nat) : Int)) := by
            rw [HO6.out.cellAt (k + 1 + J) (by omega)]
            exact bv_get pk (k + 1 + J) (by rw [HPN.out]; exact hjL)
          have hfj := hfz (k + 1 + J)
          have HX : Hid (bits .xor .u8 ((pk.getD (k + 1 + J) 0 : Nat) : Int) (by_ : Int) = ((pk.getD (k + 1 + J) 0 ^^^ by_ : Nat) : Int)) := u8_xor_nat _ _ hx HBY.out
          have HRS := Lib.hid (HRT.out (k + 1 + J) (pk.getD (k + 1 + J) 0 ^^^ by_) (some ⟨g, 0, none⟩) c6 (w6.setCell ⟨g, (k + 1 + J), none⟩ (.int .u8 ((pk.getD (k + 1 + J) 0 ^^^ by_ : Nat) : Int))) hjk hjL (Nat.xor_lt_two_pow (n := 8) hx HBY.out) (Sl.xor_ne hy) (by
            have := (HO6.out.stored (k + 1 + J) (.int .u8 ((pk.getD (k + 1 + J) 0 ^^^ by_ : Nat) : Int))).1
            have e : (bv pk).set (k + 1 + J) (.int .u8 ((pk.getD (k + 1 + J) 0 ^^^ by_ : Nat) : Int)) = bv (pk.set (k + 1 + J) (pk.getD (k + 1 + J) 0 ^^^ by_)) := by simp [bv, List.map_set]
            rw [e] at this
            obtain ⟨_, _, ev, _, _, _, hrd⟩ := own_form this
            simp only [Value.slice.injEq] at ev
            obtain ⟨rfl, _, rfl⟩ := ev
            rw [Nat.mul_one] at hrd
            exact hrd) (by omega))
          have HWS : Hid (Below w.heap.size w (w6.setCell ⟨g, (k + 1 + J), none⟩ (.int .u8 ((pk.getD (k + 1 + J) 0 ^^^ by_ : Nat) : Int)))) := HW6.out.setCell (Nat.le_trans HW5.out.size hge) _
          have hjLi : (k : Int) + 1 + (J : Int) < (L : Int) := by omega
          have hjLn : k + 1 + J < L := by omega
          obtain ⟨xb, hxb⟩ : ∃ x, pk.getD (k + 1 + J) 0 = x := ⟨_, rfl⟩
          rw [hxb] at hcell HX HRS HWS
          clear hxb hx hfz j0 j1 ej
          go_wp2_with fail
          rw [HX.out]
          refine HRS.out.mono ?_
          rintro e w7 ⟨rfl, hb7⟩
          have HW7 : Hid (Below w.heap.size w w7) := HWS.out.trans (hb7.mono HWS.out.size)
          clear hb7
          go_wp2_with fail
          go_ret
          exact ⟨ret_bool (by simp), HW7.out⟩
  · have he := h3 (by omega)
    subst he
    clear h2 h3 hb2
    go_wp2_with fail
    refine (HKN.out _ HW2.out).mono ?_
    rintro e w3 ⟨rfl, hb⟩
    have HW3 : Hid (Below w.heap.size w w3) := HW2.out.trans (hb.mono HW2.out.size)
    clear hb
    go_wp2_with fail
    go_ret
    exact ⟨ret_bool (by simp), HW3.out⟩
end Go.Proofs.YtkphmgfjlbdpgaaDoor
