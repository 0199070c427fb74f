/- RecvRefuses: the walk. Conditions: the bytes are an argument's. -/
import Derived.Test.YtcglhoochmfmiaaJZl
import Derived.Test.YtcglhoochmfmiaaJH1
set_option linter.unusedSimpArgs false
set_option linter.unusedVariables false

namespace Go.Proofs.Ytcglhoochmfmiaa.Re
open Go Go.RowKit Go.Proofs.Ytcglhoochmfmiaa Go.Proofs.Ytcglhoochmfmiaa.Sp Go.Proofs.Ytcglhoochmfmiaa.Se Go.Maps

theorem RowO.take {w : World} {F : List Nat} {A : Option Addr} {bs : List Nat} (h : RowO w F A bs) (m : Nat) (hm : m ≤ bs.length) : RowO w F A (bs.take m) := by
  have hl : (bs.take m).length = m := by rw [List.length_take]; omega
  refine ⟨?_, fun h0 => h.2 (by omega)⟩
  rw [hl, bv_tk]
  exact h.1.head m hm
theorem made0 (n : Nat) : (madeCells #[Value.int .u8 0] n).toList = bv (List.replicate n 0) := by
  refine List.ext_getElem (by simp [madeCells, bv]) fun k h1 h2 => ?_
  simp [madeCells, bv, Nat.mod_one]
set_option maxRecDepth 100000 in
set_option maxHeartbeats 16000000 in
theorem refuses_walk (A0 : Option Addr) (c0 : Nat) (bs : List Nat) (w : World) (hb : IsBytes w A0 c0 bs) (a1 a2 a3 a4 : Int) (a5 : Bool) :
    Calls Try.prog 8 #[.slice A0 bs.length c0, .int .i64 a1, .int .i64 a2, .int .i64 a3, .int .i64 a4, .bool a5] w fun e w' => e = .returned (.bool true) ∧ Below w.heap.size w w' := by
  have HFEW := Lib.hid (few_any bs w.heap.size A0 c0 200 w hb.rd (Nat.le_refl _) hb.cap (by have := hb.reach; omega))
  have HLT := Lib.hid hb.lt
  have HKN := Lib.hid known_any
  obtain ⟨off, hoff, hoff5⟩ : ∃ z : Nat, a2 % 500 = (z : Int) ∧ z < 500 := ⟨(a2 % 500).toNat, by omega, by omega⟩
  obtain ⟨n, hn, hn9⟩ : ∃ z : Nat, a3 % 90 = (z : Int) ∧ z < 90 := ⟨(a3 % 90).toNat, by omega, by omega⟩
  have HP2 := Lib.hid (fun W => pick_any a2 500 W (by decide) (by decide))
  have HP3 := Lib.hid (fun W => pick_any a3 90 W (by decide) (by decide))
  rw [hoff] at HP2
  rw [hn] at HP3
  clear hoff hn hb
  go_enter Try.func8, Try.ntmps8
  go_wp2_with fail
  refine HFEW.out.mono ?_
  rintro e w1 ⟨v1, rfl, ho1, hb1⟩
  obtain ⟨al, hal⟩ : ∃ l, bs.take 200 = l := ⟨_, rfl⟩
  rw [hal] at ho1
  obtain ⟨A1, c1, e1, hcc1, _, _, hr1⟩ := own_form ho1
  subst e1
  rw [Nat.mul_one] at hr1
  have hL : al.length ≤ 200 := by rw [← hal, List.length_take]; omega
  have HAL : Hid (∀ x ∈ al, x < 256) := fun x hx => by rw [← hal] at hx; exact HLT.out x (List.mem_of_mem_take hx)
  have HR1 := Lib.hid hr1
  have HB1 := Lib.hid hb1
  clear ho1 hb1 hr1 hal HFEW HLT
  have HNEW := Lib.hid (new_hr w1 3)
  go_wp2_with fail
  refine HNEW.out.mono ?_
  rintro e w2 ⟨p, F2, rfl, hh2, hF2⟩
  have HH2 : Hid (HR w w2 p 0 F2 newR) := ⟨hh2.st, fun k hk => Nat.le_trans HB1.out.size (hh2.lo k hk), HB1.out.trans (hh2.low.mono HB1.out.size)⟩
  have HRO2 : Hid (RowO w2 F2 A1 al) := ⟨(HR1.out.below hh2.low (Nat.le_refl _)).more hh2.low.size, fun h0 a ea hm => by
    obtain ⟨b, o, e, hlt, _⟩ := HR1.out.2 h0
    rw [ea] at e; cases e
    exact absurd hlt (by have : w1.heap.size ≤ b := hF2 _ hm; omega)⟩
  clear hh2 hF2 HNEW HR1 HB1
  go_wp2_with fail
  refine (HKN.out w2).mono ?_
  rintro e w3 ⟨rfl, hb3⟩
  have HH3 := Lib.hid (HH2.out.below hb3)
  have HRO3 := Lib.hid (HRO2.out.go (Goes.below F2 hb3))
  clear hb3 HH2 HRO2 HKN
  obtain ⟨L, hLe⟩ : ∃ L, al.length = L := ⟨_, rfl⟩
  have hE1 : (0 : Int) < ((L : Int) + 1) := by omega
  obtain ⟨E, hE, hEL⟩ : ∃ z : Nat, a1 % ((L : Int) + 1) = (z : Int) ∧ z ≤ L := ⟨(a1 % ((L : Int) + 1)).toNat, by have := Int.emod_nonneg a1 (show ((L : Int) + 1) ≠ 0 by omega); omega, by have := Int.emod_lt_of_pos a1 hE1; have := Int.emod_nonneg a1 (show ((L : Int) + 1) ≠ 0 by omega); omega⟩
  have HP1 := Lib.hid (fun W => pick_any a1 ((L : Int) + 1) W hE1 (by omega))
  rw [hE] at HP1
  have hwL : IntKind.i64.wrap ((L : Int) + 1) = (L : Int) + 1 := IntWalk.i64_in _ (by omega)
  have HLE := Lib.hid hLe
  rw [hLe] at hcc1 hL ⊢
  clear hE hLe
  go_wp2_with fail
  refine (HP1.out _).mono ?_
  rintro e w' ⟨rfl, hw'⟩
  subst hw'
  obtain ⟨b1, hb1⟩ : ∃ l, al.take E = l := ⟨_, rfl⟩
  have hb1l : b1.length = E := by rw [← hb1, List.length_take]; have := HLE.out; omega
  obtain ⟨S, hS, hFu⟩ := full_new b1 (by omega)
  have HFS : Hid (seqK S.K 0 E = b1) := by have := hFu.seq; rw [hb1l] at this; exact this
  rw [hb1l] at hFu
  have HFU := Lib.hid hFu
  have HB1L := Lib.hid hb1l
  have hEc : (E : Int) ≤ (c1 : Int) := by omega
  have HROB : Hid (RowO w3 F2 A1 b1) := by rw [← hb1]; exact HRO3.out.take E (by have := HLE.out; omega)
  have HP := Lib.hid (put_hr HH3.out newR_num 0 true c1 (by omega) HROB.out (by omega) (fun x hx => by rw [← hb1] at hx; exact HAL.out x (List.mem_of_mem_take hx)) (by omega))
  rw [hS, hb1l] at HP
  clear hS hFu hb1
  go_wp2_with fail
  refine HP.out.mono ?_
  rintro e w4 ⟨rfl, F4, hh4, hg4⟩
  have HH4 := Lib.hid hh4
  have HRO4 := Lib.hid (HRO3.out.go hg4)
  have HRB4 := Lib.hid (HROB.out.go hg4)
  clear hh4 hg4 HH3 HRO3 HROB HP HP1
  go_wp2_with fail
  refine (HP2.out _).mono ?_
  rintro e w' ⟨rfl, hw'⟩
  subst hw'
  go_wp2_with fail
  refine (HP3.out _).mono ?_
  rintro e w' ⟨rfl, hw'⟩
  subst hw'
  obtain ⟨i0, hi, hz0, hz1, hz2⟩ := info_parts infoB
  have hmk := fun W => run_make (P := Try.prog) W 30 5 i0 (.int .u8 0) Try.underlying30 hi hz0 .i64 .i64 (n : Int) (n : Int) (by omega) (by omega) (by rw [hz2]; omega) (by omega)
  simp only [hz1, Nat.mul_one, Int.toNat_natCast] at hmk
  have hzt : (madeCells (Value.int .u8 0).cells n).toList = bv (List.replicate n 0) := made0 n
  obtain ⟨zc, hzc⟩ : ∃ x, madeCells (Value.int .u8 0).cells n = x := ⟨_, rfl⟩
  rw [hzc] at hmk hzt
  have HHZ := Lib.hid (HH4.out.below ((Below.refl _ _).alloc (Nat.le_refl _) (.cells zc 5)))
  have HRZ := Lib.hid (RowO.new HH4.out zc 5 hzt)
  have HRO5 := Lib.hid (HRO4.out.go (Goes.below F4 ((Below.refl _ _).alloc (Nat.le_refl _) (.cells zc 5))))
  have HRB5 := Lib.hid (HRB4.out.go (Goes.below F4 ((Below.refl _ _).alloc (Nat.le_refl _) (.cells zc 5))))
  have HP := Lib.hid (put_hr HHZ.out HFU.out.ri.num (off : Int) a5 n (by simp; omega) HRZ.out (by simp) (fun x hx => by have := List.eq_of_mem_replicate hx; omega) (by simp; omega))
  rw [HFU.out.put off n a5 _ (by simp) (by omega), List.length_replicate] at HP
  clear hi hz0 hz1 hz2 hzc hzt HHZ HRZ HRO4 HRB4
  have hnI : (n : Int) < 90 := by omega
  have hoI : (off : Int) < 500 := by omega
  go_wp2_with fail
  refine HP.out.mono ?_
  rintro e w5 ⟨rfl, F5, hh5, hg5⟩
  have HH5 := Lib.hid hh5
  have HRO6 := Lib.hid (HRO5.out.go hg5)
  have HRB6 := Lib.hid (HRB5.out.go hg5)
  clear hh5 hg5 HRO5 HRB5 HP hmk
  have hws : IntKind.i64.wrap ((off : Int) + (n : Int)) = (off : Int) + (n : Int) := IntWalk.i64_in _ (by omega)
  obtain ⟨we, hwe⟩ : ∃ x, wantP E off n a5 = x := ⟨_, rfl⟩
  rw [hwe]
  have HWE := Lib.hid hwe
  clear hwe
  go_upto_block 0 with (fail)
  go_cut [19, 63, 68] (fun v19 v63 v68 wx => v19 = .int .i64 we ∧ wx = w5)
  case first =>
    have hwe := HWE.out
    unfold wantP at hwe
    by_cases h1 : off + n > 400
    · rw [if_pos h1] at hwe
      have h1I : (400 : Int) < (off : Int) + (n : Int) := by omega
      subst hwe
      go_wp2_with fail
      go_meet
      case rel => exact ⟨rfl, rfl⟩
    · rw [if_neg h1] at hwe
      have h1I : ¬ (400 : Int) < (off : Int) + (n : Int) := by omega
      by_cases h2 : off + n > E
      · rw [if_pos (.inl h2)] at hwe
        have h2I : (E : Int) < (off : Int) + (n : Int) := by omega
        subst hwe
        go_wp2_with fail
        go_meet
        case rel => exact ⟨rfl, rfl⟩
      · have h2I : ¬ (E : Int) < (off : Int) + (n : Int) := by omega
        cases a5
        · rw [if_neg (by rintro (h | h); exact h2 h; cases h.1)] at hwe
          subst hwe
          go_wp2_with fail
          go_meet
          case rel => exact ⟨rfl, rfl⟩
        · by_cases h3 : off + n = E
          · rw [if_neg (by rintro (h | h); exact h2 h; exact h.2 h3)] at hwe
            have h3I : ((off : Int) + (n : Int) == (E : Int)) = true := by simp; omega
            subst hwe
            go_wp2_with fail
            go_meet
            case rel => exact ⟨rfl, rfl⟩
          · rw [if_pos (.inr ⟨rfl, h3⟩)] at hwe
            have h3I : ((off : Int) + (n : Int) == (E : Int)) = false := by simp; omega
            subst hwe
            go_wp2_with fail
            go_meet
            case rel => exact ⟨rfl, rfl⟩
  case rest =>
    obtain ⟨rfl, hcw⟩ := hcut
    subst hcw
    have HB := Lib.hid (break_hr HH5.out HFU.out.ri.num a4 (off : Int) 0)
    rw [HFU.out.brk off a4 (by omega)] at HB
    obtain ⟨wb, hwb⟩ : ∃ x, wantB E off a4 = x := ⟨_, rfl⟩
    rw [hwb] at HB
    have HWB := Lib.hid hwb
    clear hwb
    go_wp2_with fail
    refine HB.out.mono ?_
    rintro e w6 ⟨rfl, F6, hh6, hg6⟩
    have HH6 := Lib.hid hh6
    have HRO7 := Lib.hid (HRO6.out.go hg6)
    have HRB7 := Lib.hid (HRB6.out.go hg6)
    clear hh6 hg6 HRO6 HRB6 HB
    go_upto_block 1 with (fail)
    go_cut [22, 91, 98, 101] (fun v22 v91 v98 v101 wx => v22 = .int .i64 wb ∧ wx = w6)
    case first =>
      have hwb := HWB.out
      unfold wantB at hwb
      by_cases h1 : a4 < 0
      · rw [if_pos (.inl h1)] at hwb
        subst hwb
        go_wp2_with fail
        go_meet
        case rel => exact ⟨rfl, rfl⟩
      · by_cases h2 : a4 > 4611686018427387903
        · rw [if_pos (.inr h2)] at hwb
          have h2I : (4611686018427387903 : Int) < a4 := h2
          subst hwb
          go_wp2_with fail
          go_meet
          case rel => exact ⟨rfl, rfl⟩
        · rw [if_neg (by omega)] at hwb
          have h2I : ¬ (4611686018427387903 : Int) < a4 := h2
          by_cases h3 : off > 400
          · rw [if_pos h3] at hwb
            have h3I : (400 : Int) < (off : Int) := by omega
            subst hwb
            go_wp2_with fail
            go_meet
            case rel => exact ⟨rfl, rfl⟩
          · rw [if_neg h3] at hwb
            have h3I : ¬ (400 : Int) < (off : Int) := by omega
            by_cases h4 : off = E
            · rw [if_neg (by simpa using h4)] at hwb
              subst h4
              subst hwb
              go_wp2_with fail
              go_meet
              case rel => exact ⟨rfl, rfl⟩
            · rw [if_pos h4] at hwb
              have h4I : ((off : Int) == (E : Int)) = false := by simp; omega
              subst hwb
              go_wp2_with fail
              go_meet
              case rel => exact ⟨rfl, rfl⟩
    case rest =>
      obtain ⟨rfl, hcw⟩ := hcut
      subst hcw
      have HT := Lib.hid (take_hr HH6.out HFU.out.ri.num (by rw [HFU.out.rd]; omega) 999 E 0 (HFU.out.ns (by omega)) HFU.out.tk)
      go_wp2_with fail
      refine HT.out.mono ?_
      rintro e w7 ⟨A7, c7, K7, F7, rfl, hh7, hg7, hc7, hro7, _⟩
      rw [HFU.out.over]
      rw [HFS.out] at hro7
      have HH7 := Lib.hid hh7
      have HRB8 := Lib.hid (HRB7.out.go hg7)
      have HRX := Lib.hid hro7
      have hc7' := hc7
      clear hh7 hg7 hro7 HRO7 HRB7 HT
      obtain ⟨sx, hsx⟩ : ∃ x, strOf b1 = x := ⟨_, rfl⟩
      have HSX := Lib.hid hsx
      have HS26 : Hid (∀ W, Below w7.heap.size w7 W → (fun W : World => Below w7.heap.size w7 W ∧ (convert 30 9 (.slice A7 E c7)).run Try.prog W = .ok (.string sx) W ∧ (convert 30 9 (.slice A1 E c1)).run Try.prog W = .ok (.string sx) W) W) := fun W hW => by
        have h1 := str_hr (HRX.out.go (Goes.below F7 hW)) c7
        have h2 := str_hr (HRB8.out.go (Goes.below F7 hW)) c1
        rw [HB1L.out, HSX.out] at h1 h2
        exact ⟨hW, h1, h2⟩
      have HCN : Hid (cnt S.es = (E : Int)) := cnt_run HFU.out.ri.ok E HFU.out.mem
      clear hsx hc7 hc7'
      go_wp2_with fail
      go_upto_region 26 with (fail)
      refine wp_region_held_drew (S := (fun W : World => Below w7.heap.size w7 W ∧ (convert 30 9 (.slice A7 E c7)).run Try.prog W = .ok (.string sx) W ∧ (convert 30 9 (.slice A1 E c1)).run Try.prog W = .ok (.string sx) W)) (by kernel_rfl) ?_ (fun hHeld => ?_)
      · exact HS26.out _ ((Below.refl _ _).drew)
      refine wpAnyH_take (i := 0) (v := ?_) rfl (by kernel_rfl) (by kernel_rfl) (by kernel_rfl) (fun _ _ _ h => h) (Or.inl ⟨by rfl, ?_⟩) (by assumption) ?_
      rotate_left
      · intro w hSw; (try dsimp only at hSw); go_simp; try with_reducible rfl
      go_simp
      refine wpAnyH_take (i := 1) (v := ?_) rfl (by kernel_rfl) (by kernel_rfl) (by kernel_rfl) (fun _ _ _ h => h) (Or.inl ⟨by rfl, ?_⟩) (by assumption) ?_
      rotate_left
      · intro w hSw; (try dsimp only at hSw); go_simp; try with_reducible rfl
      go_simp
      refine wpAnyH_take (i := 2) (v := ?_) rfl (by kernel_rfl) (by kernel_rfl) (by kernel_rfl) (fun _ _ _ h => h) (Or.inl ⟨by rfl, ?_⟩) (by assumption) ?_
      rotate_left
      · intro w hSw; (try dsimp only at hSw); go_simp; try with_reducible rfl
      go_simp
      refine wpAnyH_take (i := 3) (v := ?_) rfl (by kernel_rfl) (by kernel_rfl) (by kernel_rfl) (fun _ _ _ h => h) (Or.inl ⟨by rfl, ?_⟩) (by assumption) ?_
      rotate_left
      · intro w hSw; (try dsimp only at hSw); go_simp; try with_reducible rfl
      go_simp
      refine wpAnyH_take (i := 4) (v := ?_) rfl (by kernel_rfl) (by kernel_rfl) (by kernel_rfl) (fun _ _ _ h => h) (Or.inl ⟨by rfl, ?_⟩) (by assumption) ?_
      rotate_left
      · intro w hSw; (try dsimp only at hSw); go_simp; try with_reducible rfl
      go_simp
      refine wpAnyH_take (i := 5) (v := ?_) rfl (by kernel_rfl) (by kernel_rfl) (by kernel_rfl) (fun _ _ _ h => h) (Or.inl ⟨by rfl, ?_⟩) (by assumption) ?_
      rotate_left
      · intro w hSw; (try dsimp only at hSw); go_simp; try with_reducible rfl
      go_simp
      refine wpAnyH_take (i := 6) (v := ?_) rfl (by kernel_rfl) (by kernel_rfl) (by kernel_rfl) (fun _ _ _ h => h) (Or.inl ⟨by rfl, ?_⟩) (by assumption) ?_
      rotate_left
      · intro w hSw; (try dsimp only at hSw); go_simp; try with_reducible rfl
      go_simp
      refine wpAnyH_take (i := 7) (v := ?_) rfl (by kernel_rfl) (by kernel_rfl) (by kernel_rfl) (fun _ _ _ h => h) (Or.inl ⟨by rfl, ?_⟩) (by assumption) ?_
      rotate_left
      · intro w hSw; (try dsimp only at hSw); go_simp; try with_reducible rfl
      go_simp
      refine wpAnyH_take (i := 8) (v := ?_) rfl (by kernel_rfl) (by kernel_rfl) (by kernel_rfl) (fun _ _ _ h => h) (Or.inl ⟨by rfl, ?_⟩) (by assumption) ?_
      rotate_left
      · intro w hSw; (try dsimp only at hSw); go_simp; try with_reducible rfl
      go_simp
      refine wpAnyH_take (i := 9) (v := ?_) rfl (by kernel_rfl) (by kernel_rfl) (by kernel_rfl) (fun _ _ _ h => h) (Or.inl ⟨by rfl, ?_⟩) (by assumption) ?_
      rotate_left
      · intro w hSw; (try dsimp only at hSw); go_simp; try with_reducible rfl
      go_simp
      refine wpAnyH_take (i := 10) (v := ?_) rfl (by kernel_rfl) (by kernel_rfl) (by kernel_rfl) (fun _ _ _ h => h) (Or.inl ⟨by rfl, ?_⟩) (by assumption) ?_
      rotate_left
      · intro w hSw; (try dsimp only at hSw); go_simp; try with_reducible rfl
      go_simp
      refine wpAnyH_take (i := 11) (v := ?_) rfl (by kernel_rfl) (by kernel_rfl) (by kernel_rfl) (fun _ _ _ h => h) (Or.inl ⟨by rfl, ?_⟩) (by assumption) ?_
      rotate_left
      · intro w hSw; (try dsimp only at hSw); go_simp; try with_reducible rfl
      go_simp
      refine wpAnyH_take (i := 12) (v := ?_) rfl (by kernel_rfl) (by kernel_rfl) (by kernel_rfl) (fun _ _ _ h => h) (Or.inl ⟨by rfl, ?_⟩) (by assumption) ?_
      rotate_left
      · intro w hSw; (try dsimp only at hSw); go_simp; try with_reducible rfl
      go_simp
      refine wpAnyH_take (i := 13) (v := ?_) rfl (by kernel_rfl) (by kernel_rfl) (by kernel_rfl) (fun _ _ _ h => h) (Or.inl ⟨by rfl, ?_⟩) (by assumption) ?_
      rotate_left
      · intro w hSw; (try dsimp only at hSw); go_simp; try with_reducible rfl
      go_simp
      refine wpAnyH_take (i := 14) (v := ?_) rfl (by kernel_rfl) (by kernel_rfl) (by kernel_rfl) (fun _ _ _ h => h) (Or.inl ⟨by rfl, ?_⟩) (by assumption) ?_
      rotate_left
      · intro w hSw; (try dsimp only at hSw); go_simp; try with_reducible rfl
      go_simp
      refine wpAnyH_take (i := 15) (v := ?_) rfl (by kernel_rfl) (by kernel_rfl) (by kernel_rfl) (fun _ _ _ h => h) (Or.inl ⟨by rfl, ?_⟩) (by assumption) ?_
      rotate_left
      · intro w hSw; (try dsimp only at hSw); go_simp; try with_reducible rfl
      go_simp
      refine wpAnyH_take (i := 16) (v := ?_) rfl (by kernel_rfl) (by kernel_rfl) (by kernel_rfl) (fun _ _ _ h => h) (Or.inl ⟨by rfl, ?_⟩) (by assumption) ?_
      rotate_left
      · intro w hSw; (try dsimp only at hSw); go_simp; try with_reducible rfl
      go_simp
      refine wpAnyH_take (i := 17) (v := ?_) rfl (by kernel_rfl) (by kernel_rfl) (by kernel_rfl) (fun _ _ _ h => h) (Or.inl ⟨by rfl, ?_⟩) (by assumption) ?_
      rotate_left
      · intro w hSw; (try dsimp only at hSw); go_simp; try with_reducible rfl
      go_simp
      refine wpAnyH_take (i := 18) (v := ?_) rfl (by kernel_rfl) (by kernel_rfl) (by kernel_rfl) (fun _ _ _ h => h) (Or.inl ⟨by rfl, ?_⟩) (by assumption) ?_
      rotate_left
      · intro w hSw; (try dsimp only at hSw); go_simp; try with_reducible rfl
      go_simp
      refine wpAnyH_take (i := 19) (v := ?_) rfl (by kernel_rfl) (by kernel_rfl) (by kernel_rfl) (fun _ _ _ h => h) (Or.inl ⟨by rfl, ?_⟩) (by assumption) ?_
      rotate_left
      · intro w hSw; (try dsimp only at hSw); go_simp; try with_reducible rfl
      go_simp
      refine wpAnyH_take (i := 20) (v := ?_) rfl (by kernel_rfl) (by kernel_rfl) (by kernel_rfl) (fun _ _ _ h => h) (Or.inl ⟨by rfl, ?_⟩) (by assumption) ?_
      rotate_left
      · intro w hSw; (try dsimp only at hSw); go_simp; try with_reducible rfl
      go_simp
      refine wpAnyH_take (i := 21) (v := ?_) rfl (by kernel_rfl) (by kernel_rfl) (by kernel_rfl) (fun _ _ _ h => h) (Or.inl ⟨by rfl, ?_⟩) (by assumption) ?_
      rotate_left
      · intro w hSw; (try dsimp only at hSw); go_simp; try with_reducible rfl
      go_simp
      refine wpAnyH_take (i := 22) (v := ?_) rfl (by kernel_rfl) (by kernel_rfl) (by kernel_rfl) (fun _ _ _ h => h) (Or.inl ⟨by rfl, ?_⟩) (by assumption) ?_
      rotate_left
      · intro w hSw; (try dsimp only at hSw); go_simp; try with_reducible rfl
      go_simp
      refine wpAnyH_take (i := 23) (v := ?_) rfl (by kernel_rfl) (by kernel_rfl) (by kernel_rfl) (fun _ _ _ h => h) (Or.inl ⟨by rfl, ?_⟩) (by assumption) ?_
      rotate_left
      · intro w hSw; (try dsimp only at hSw); go_simp; try with_reducible rfl
      go_simp
      refine wpAnyH_take (i := 24) (v := ?_) rfl (by kernel_rfl) (by kernel_rfl) (by kernel_rfl) (fun _ _ _ h => h) (Or.inl ⟨by rfl, ?_⟩) (by assumption) ?_
      rotate_left
      · intro w hSw; (try dsimp only at hSw); go_simp; try with_reducible rfl
      go_simp
      refine wpAnyH_take (i := 26) (v := ?_) rfl (by kernel_rfl) (by kernel_rfl) (by kernel_rfl) (fun _ _ _ h => h) (Or.inl ⟨by rfl, ?_⟩) (by assumption) ?_
      rotate_left
      · intro w hSw; (try dsimp only at hSw); go_simp; try with_reducible rfl
      go_simp
      refine wpAnyH_ready (rs := [25]) (by kernel_rfl) (by simp) ?_
      refine AllReadyH.cons rfl (fun K hK => ?_) AllReadyH.nil
      go_simp
      have HC := Lib.hid (count_hr (HH7.out.below (hHeld.1)) HFU.out.ri.num.len)
      rw [show cnt (takenS S (E : Int) K7).es = (E : Int) from HCN.out] at HC
      refine HC.out.mono ?_
      rintro e w8 ⟨rfl, hb8⟩
      have HB8 := Lib.hid (hHeld.1.trans (hb8.mono hHeld.1.size))
      refine hK.out _ _ ?_ (fun hHeld => ?_)
      · exact HS26.out _ HB8.out
      clear hK K
      go_simp
      refine wpAnyH_take (i := 27) (v := ?_) rfl (by kernel_rfl) (by kernel_rfl) (by kernel_rfl) (fun _ _ _ h => h) (Or.inl ⟨by rfl, ?_⟩) (by assumption) ?_
      rotate_left
      · intro w hSw; (try dsimp only at hSw); go_simp; try with_reducible rfl
      go_simp
      refine wpAnyH_take (i := 28) (v := ?_) rfl (by kernel_rfl) (by kernel_rfl) (by kernel_rfl) (fun _ _ _ h => h) (Or.inl ⟨by rfl, ?_⟩) (by assumption) ?_
      rotate_left
      · intro w hSw; (try dsimp only at hSw); go_simp; try with_reducible rfl
      go_simp
      refine wpAnyH_take (i := 29) (v := ?_) rfl (by kernel_rfl) (by kernel_rfl) (by kernel_rfl) (fun _ _ _ h => h) (Or.inl ⟨by rfl, ?_⟩) (by assumption) ?_
      rotate_left
      · intro w hSw; (try dsimp only at hSw); go_simp; try with_reducible rfl
      go_simp
      refine wpAnyH_done (by kernel_rfl) ?_ _

      have HBF := Lib.hid (HH7.out.low.trans (HB8.out.mono HH7.out.low.size))
      go_wp2_with fail
      go_ret
      exact ⟨rfl, HBF.out⟩
end Go.Proofs.Ytcglhoochmfmiaa.Re
