/- RecvSure: the walk (printed by gen/recvs.py). Conditions: the bytes and the calls are arguments'. -/
import Derived.Test.YtcglhoochmfmiaaJZr
import Derived.Test.YtcglhoochmfmiaaJZs0
import Derived.Test.YtcglhoochmfmiaaJZn
import Derived.Test.YtcglhoochmfmiaaJH1
set_option linter.unusedSimpArgs false
set_option linter.unusedVariables false

namespace Go.Proofs.Ytcglhoochmfmiaa.Re
open Go Go.RowKit Go.Proofs.Ytcglhoochmfmiaa Go.Proofs.Ytcglhoochmfmiaa.Sp Go.Proofs.Ytcglhoochmfmiaa.Se Go.Maps Go.Proofs.Ytcglhoochmfmiaa.Rw

/-- What RecvSure holds at each piece. -/
def SuJ (w wr : World) (p : Nat) (A1 : Option Addr) (al : List Nat) (E z h : Nat) (b : Bool) (v : Value) (j : Nat) : Prop := ∃ F s n t, SI w wr p n F s A1 al v t ∧ SuP al E z h b t s ∧ n ≤ 200 * j
theorem SuJ.below {w wr w' : World} {p : Nat} {A1 : Option Addr} {al : List Nat} {E z h : Nat} {b : Bool} {v : Value} {j : Nat} (hj : SuJ w wr p A1 al E z h b v j) (hb : Below wr.heap.size wr w') : SuJ w w' p A1 al E z h b v j := by
  obtain ⟨F, s, n, t, h1, h2, h3⟩ := hj
  exact ⟨F, s, n, t, h1.below hb, h2, h3⟩

set_option maxRecDepth 100000 in
set_option maxHeartbeats 16000000 in
theorem sure_walk (A0 : Option Addr) (c0 : Nat) (bs : List Nat) (A : Option Addr) (N cap : Nat) (rs : List Rw.Rc) (a2 a3 a4 a5 : Int) (w : World) (hb : IsBytes w A0 c0 bs) (hr : Rw.CallsIn w A cap N rs) (hN : N * 64 ≤ 140737488351232) :
    Calls Try.prog 7 #[.slice A0 bs.length c0, .slice A N cap, .int .i64 a2, .int .i64 a3, .int .i64 a4, .int .i64 a5] w fun e w' => e = .returned (.bool true) ∧ Below w.heap.size w w' := by
  have HFEW := Lib.hid (few_any bs w.heap.size A0 c0 200 w hb.rd (Nat.le_refl _) hb.cap (by have := hb.reach; omega))
  have HLT := Lib.hid hb.lt
  have HKN := Lib.hid known_any
  have HRS := Lib.hid hr
  have hnI : (N : Int) ≤ 2199023255552 := by omega
  have hncI : (N : Int) ≤ (cap : Int) := by have := hr.le; omega
  have hNN : N ≤ 2199023255552 := by omega
  have hN1 : (0 : Int) < ((N : Int) + 1) := by omega
  have hwN : IntKind.i64.wrap ((N : Int) + 1) = (N : Int) + 1 := IntWalk.i64_in _ (by omega)
  obtain ⟨wh, hwh, hwhN⟩ : ∃ z : Nat, a2 % ((N : Int) + 1) = (z : Int) ∧ z ≤ N := ⟨(a2 % ((N : Int) + 1)).toNat, by have := Int.emod_nonneg a2 (show ((N : Int) + 1) ≠ 0 by omega); omega, by have := Int.emod_lt_of_pos a2 hN1; have := Int.emod_nonneg a2 (show ((N : Int) + 1) ≠ 0 by omega); omega⟩
  have HPW := Lib.hid (fun W => pick_any a2 ((N : Int) + 1) W hN1 (by omega))
  rw [hwh] at HPW
  clear hb hr hN hwh hN1
  go_enter Try.func7, Try.ntmps7
  go_wp2_with fail
  refine HFEW.out.mono ?_
  rintro e w1 ⟨v1, rfl, ho1, hb1⟩
  obtain ⟨al, hal⟩ : ∃ l, bs.take 200 = l := ⟨_, rfl⟩
  rw [hal] at ho1
  obtain ⟨A1, c1, e1, hcc1, _, _, hr1⟩ := own_form ho1
  subst e1
  rw [Nat.mul_one] at hr1
  have hL : al.length ≤ 200 := by rw [← hal, List.length_take]; omega
  have HAL : Hid (∀ x ∈ al, x < 256) := fun x hx => by rw [← hal] at hx; exact HLT.out x (List.mem_of_mem_take hx)
  have HR1 := Lib.hid hr1
  have HB1 := Lib.hid hb1
  clear ho1 hb1 hr1 hal HFEW HLT
  have HNEW := Lib.hid (new_hr w1 7)
  go_wp2_with fail
  refine HNEW.out.mono ?_
  rintro e w2 ⟨p, F2, rfl, hh2, hF2⟩
  have HH2 : Hid (HR w w2 p 0 F2 newR) := ⟨hh2.st, fun k hk => Nat.le_trans HB1.out.size (hh2.lo k hk), HB1.out.trans (hh2.low.mono HB1.out.size)⟩
  have HRO2 : Hid (RowO w2 F2 A1 al) := ⟨(HR1.out.below hh2.low (Nat.le_refl _)).more hh2.low.size, fun h0 a ea hm => by
    obtain ⟨b, o, e, hlt, _⟩ := HR1.out.2 h0
    rw [ea] at e; cases e
    exact absurd hlt (by have : w1.heap.size ≤ b := hF2 _ hm; omega)⟩
  clear hh2 hF2 HNEW HR1 HB1
  go_wp2_with fail
  refine (HKN.out w2).mono ?_
  rintro e w3 ⟨rfl, hb3⟩
  have HH3 := Lib.hid (HH2.out.below hb3)
  have HRO3 := Lib.hid (HRO2.out.go (Goes.below F2 hb3))
  clear hb3 HH2 HRO2 HKN
  obtain ⟨L, hLe⟩ : ∃ L, al.length = L := ⟨_, rfl⟩
  have hE1 : (0 : Int) < ((L : Int) + 1) := by omega
  obtain ⟨E, hE, hEL⟩ : ∃ z : Nat, a3 % ((L : Int) + 1) = (z : Int) ∧ z ≤ L := ⟨(a3 % ((L : Int) + 1)).toNat, by have := Int.emod_nonneg a3 (show ((L : Int) + 1) ≠ 0 by omega); omega, by have := Int.emod_lt_of_pos a3 hE1; have := Int.emod_nonneg a3 (show ((L : Int) + 1) ≠ 0 by omega); omega⟩
  have HP1 := Lib.hid (fun W => pick_any a3 ((L : Int) + 1) W hE1 (by omega))
  rw [hE] at HP1
  have hwL : IntKind.i64.wrap ((L : Int) + 1) = (L : Int) + 1 := IntWalk.i64_in _ (by omega)
  have hS1 : (0 : Int) < ((E : Int) + 1) := by omega
  obtain ⟨z0, hz0, hz0E⟩ : ∃ z : Nat, a4 % ((E : Int) + 1) = (z : Int) ∧ z ≤ E := ⟨(a4 % ((E : Int) + 1)).toNat, by have := Int.emod_nonneg a4 (show ((E : Int) + 1) ≠ 0 by omega); omega, by have := Int.emod_lt_of_pos a4 hS1; have := Int.emod_nonneg a4 (show ((E : Int) + 1) ≠ 0 by omega); omega⟩
  have HP2 := Lib.hid (fun W => pick_any a4 ((E : Int) + 1) W hS1 (by omega))
  rw [hz0] at HP2
  have hwE : IntKind.i64.wrap ((E : Int) + 1) = (E : Int) + 1 := IntWalk.i64_in _ (by omega)
  have HLE := Lib.hid hLe
  rw [hLe] at hcc1 hL ⊢
  clear hE hLe hz0
  go_wp2_with fail
  refine (HP1.out _).mono ?_
  rintro e w' ⟨rfl, hw'⟩
  subst hw'
  go_wp2_with fail
  refine (HP2.out _).mono ?_
  rintro e w' ⟨rfl, hw'⟩
  subst hw'
  have HJ3 : Hid (SuJ w w3 p A1 al E z0 0 false (.slice none 0 0) 0) := ⟨F2, newR, 0, 0, ⟨HH3.out, HRO3.out, (fun _ a _ hm => by simp [fp] at hm), own_nil _ _ _ _, (fun k hk => by simp [fp] at hk)⟩, SuP.new al E z0 0, Nat.zero_le _⟩
  clear HH3 HRO3 HP1 HP2 hE1 hS1 hwL
  go_wp2_with fail
  go_loopw [4, 5, 15, 16, 17, 18] (fun v4 v5 v15 v16 v17 i wr => ∃ (j z h : Nat) (y : Int) (b : Bool), j ≤ N ∧ v4 = .int .i64 (z : Int) ∧ v5 = .int .i64 y ∧ v16 = .bool b ∧ v17 = .int .i64 (h : Int) ∧ i = .int .i64 (j : Int) ∧ z ≤ E ∧ Hid (b = decide (wh < j)) ∧ (b = false → h = 0) ∧ Hid (SuJ w wr p A1 al E z h b v15 j)) (fun _ _ _ _ _ i _ => N - (intOf i).toNat)
  case atStart => exact ⟨0, z0, 0, a5, false, Nat.zero_le _, rfl, rfl, rfl, rfl, rfl, hz0E, by show false = decide (wh < 0); simp, fun _ => rfl, HJ3.out⟩
  case round =>
    clear HJ3
    obtain ⟨j, z, h, y, b, hj, rfl, rfl, rfl, rfl, rfl, hzE, HBJ, hbh, HK⟩ := hrel
    obtain ⟨F, s, n0, t, hI, hS, hn0⟩ := HK.out
    obtain ⟨Av, cv, ev, hcv, _, _, _⟩ := own_form hI.got
    subst ev
    have HI := Lib.hid hI
    have HS := Lib.hid hS
    have HN0 := Lib.hid hn0
    have htE := hS.tE
    clear hI hS hn0 HK
    have hjI : (j : Int) ≤ (N : Int) := by omega
    go_wp2_with fail
    refine (HPW.out _).mono ?_; rintro e w' ⟨rfl, hw'⟩; subst hw'
    go_upto_if 63 with (fail)
    go_cut [4, 5, 16, 17] (fun v4 v5 v16 v17 wx => ∃ (z h : Nat) (y : Int) (b : Bool), v4 = .int .i64 (z : Int) ∧ v5 = .int .i64 y ∧ v16 = .bool b ∧ v17 = .int .i64 (h : Int) ∧ z ≤ E ∧ Hid (b = decide (wh < j + 1)) ∧ (b = false → h = 0) ∧ Hid (∃ F s n, SI w wx p n F s A1 al (.slice Av t cv) t ∧ SuP al E z h b t s ∧ n ≤ 200 * j))
    case first =>
      by_cases hjw : j = wh
      case neg =>
        have hjwI : ¬ (j : Int) = (wh : Int) := by omega
        have HB2 : Hid (b = decide (wh < j + 1)) := by
          show b = _
          rw [HBJ.out]
          exact decide_eq_decide.2 (by omega)
        have HR2 : Hid (∃ F s n, SI w wr p n F s A1 al (.slice Av t cv) t ∧ SuP al E z h b t s ∧ n ≤ 200 * j) := ⟨F, s, n0, HI.out, HS.out, HN0.out⟩
        clear HBJ HI HS HN0
        go_wp2_with fail
        go_meet
        case rel => exact ⟨z, h, y, b, rfl, rfl, rfl, rfl, hzE, HB2, hbh, HR2⟩
      case pos =>
        subst hjw
        have hb0 : b = false := by rw [HBJ.out]; simp
        subst hb0
        obtain ⟨s1, f1, hb1, hs1⟩ := HS.out.brk (by omega) z hzE
        have HBR := Lib.hid (break_hr HI.out.hr HS.out.ri.num 77 (E : Int) (z : Int))
        rw [hb1] at HBR
        have HS1 := Lib.hid hs1
        have HB2 : Hid (true = decide (j < j + 1)) := by show true = _; simp
        clear hb1 hs1 hbh
        go_wp2_with fail
        refine HBR.out.mono ?_
        rintro e w4 ⟨rfl, F4, hh4, hg4⟩
        have HI4 := Lib.hid (HI.out.call hh4 hg4)
        clear hh4 hg4 HBR HI HS
        have hz1 : (0 : Int) < ((z : Int) + 1) := by omega
        obtain ⟨y2, hy2, hy2z⟩ : ∃ x : Nat, y % ((z : Int) + 1) = (x : Int) ∧ x ≤ z := ⟨(y % ((z : Int) + 1)).toNat, by have := Int.emod_nonneg y (show ((z : Int) + 1) ≠ 0 by omega); omega, by have := Int.emod_lt_of_pos y hz1; have := Int.emod_nonneg y (show ((z : Int) + 1) ≠ 0 by omega); omega⟩
        have HPY := Lib.hid (fun W => pick_any y ((z : Int) + 1) W hz1 (by omega))
        rw [hy2] at HPY
        have hwz : IntKind.i64.wrap ((z : Int) + 1) = (z : Int) + 1 := IntWalk.i64_in _ (by omega)
        clear hy2
        go_wp2_with fail
        refine (HPY.out _).mono ?_; rintro e w' ⟨rfl, hw'⟩; subst hw'
        obtain ⟨od, hod⟩ : ∃ x : Int, (j : Int).tmod 2 = x := ⟨_, rfl⟩
        by_cases hodd : od = 1
        case neg =>
          have HR2 : Hid (∃ F s n, SI w w4 p n F s A1 al (.slice Av t cv) t ∧ SuP al E z t true t s ∧ n ≤ 200 * j) := ⟨F4, s1, n0, HI4.out, HS1.out, HN0.out⟩
          clear HI4 HS1 HN0 HBJ
          go_wp2_with fail
          go_meet
          case rel => exact ⟨z, t, _, true, rfl, rfl, rfl, rfl, hzE, HB2, (fun h => by cases h), HR2⟩
        case pos =>
          obtain ⟨s2, f2, hb2, hs2⟩ := HS1.out.less (by omega) hzE y2 hy2z
          have HBR := Lib.hid (break_hr HI4.out.hr HS1.out.ri.num 5 (E : Int) (y2 : Int))
          rw [hb2] at HBR
          have HS2 := Lib.hid hs2
          clear hb2 hs2
          go_wp2_with fail
          refine HBR.out.mono ?_
          rintro e w5 ⟨rfl, F5, hh5, hg5⟩
          have HI5 := Lib.hid (HI4.out.call hh5 hg5)
          have HR2 : Hid (∃ F s n, SI w w5 p n F s A1 al (.slice Av t cv) t ∧ SuP al E y2 t true t s ∧ n ≤ 200 * j) := ⟨F5, s2, n0, HI5.out, HS2.out, HN0.out⟩
          clear hh5 hg5 HBR HI4 HS1 HI5 HS2 HN0 HBJ
          go_wp2_with fail
          go_meet
          case rel => exact ⟨y2, t, _, true, rfl, rfl, rfl, rfl, by omega, HB2, (fun h => by cases h), HR2⟩
    case rest =>
      obtain ⟨z, h, y, b, rfl, rfl, rfl, rfl, hzE, HB2, hbh, HK⟩ := hcut
      clear HI HS HN0 HBJ
      by_cases hjN : j = N
      case pos =>
        subst hjN
        obtain ⟨F, s, n0, hI, hS, hn0⟩ := HK.out
        have hbt : b = true := by rw [HB2.out]; simp; omega
        subst hbt
        clear hbh HB2 HK
        obtain ⟨s1, f1, hp1, hs1, hm1⟩ := hS.put (by omega) (by have := HLE.out; omega) 0 E (by omega)
        rw [List.drop_zero] at hp1
        have hlE : (al.take E).length = E := by rw [List.length_take]; have := HLE.out; omega
        have HP := Lib.hid (put_hr hI.hr hS.ri.num 0 false c1 (by rw [hlE]; omega) (hI.all.take E (by have := HLE.out; omega)) (by rw [hlE]; omega) (fun x hx => HAL.out x (List.mem_of_mem_take hx)) (by rw [hlE]; omega))
        rw [show putS s 0 false (al.take E) = (f1, 0, s1) from hp1, hlE] at HP
        have HI := Lib.hid hI
        have HS1 := Lib.hid hs1
        have HLA := Lib.hid (hs1.last (by omega) hzE (fun x h0 h1 => by rw [hm1]; simp; left; omega))
        have hEc : (E : Int) ≤ (c1 : Int) := by omega
        clear hp1 hm1 hlE hI hS hs1 hn0
        go_wp2_with fail
        refine HP.out.mono ?_
        rintro e w4 ⟨rfl, F4, hh4, hg4⟩
        have HI4 := Lib.hid (HI.out.call hh4 hg4)
        clear hh4 hg4 HP HI
        obtain ⟨m, hm⟩ : ∃ m, max z t - t = m := ⟨_, rfl⟩
        have hlast := HLA.out
        rw [hm] at hlast
        have HTA := Lib.hid (take_hr HI4.out.hr HS1.out.ri.num (HS1.out.rd_num (by omega)) 999 m t hlast.1 HS1.out.tk)
        have HMX : Hid (max z h = t + m ∧ z ≤ t + m) := ⟨by rw [← hlast.2, ← hm]; omega, by omega⟩
        have HNM := Lib.hid hlast.1
        clear hlast hm HLA
        go_wp2_with fail
        refine HTA.out.mono ?_
        rintro e w6 ⟨A6, c6, K6, F6, rfl, hh6, hg6, hc6, hro6, hK6⟩
        obtain ⟨hs6, hsq6, htm6, hov6⟩ := HS1.out.take (by have := HLE.out; omega) 999 m HNM.out K6 hK6
        rw [hov6, if_pos (show true = true ∧ z ≤ t + m from ⟨rfl, HMX.out.2⟩)]
        rw [if_pos (show (2 : Int) = 2 from rfl), (HS1.out.bk rfl).2.1]
        rw [hsq6] at hro6
        have HI6 := Lib.hid (HI4.out.call hh6 hg6)
        have HS6 := Lib.hid hs6
        have hl6 : ((al.drop t).take m).length = m := sub_len al t m (by have := HLE.out; omega)
        have HRD : Hid (Rd w6 w6.heap.size A6 (m * 1) (bv ((al.drop t).take m))) := by
          have := hro6.1
          rw [hl6] at this
          rw [Nat.mul_one]; exact this
        have hc6I : (m : Int) ≤ (c6 : Int) := by omega
        obtain ⟨i0, hi, hq0, hq1, hq2⟩ := info_parts infoB
        have HIB := Lib.hid (And.intro hi (And.intro hq0 (And.intro hq1 hq2)))
        have HD2 : Hid (t + m ≤ maxLen ∧ (t + m) * 1 ≤ 140737488355328) := ⟨by unfold maxLen; omega, by omega⟩
        have htm7 : t + m ≤ E := htm6
        clear hh6 hg6 hc6 hro6 hK6 hs6 hsq6 hov6 hl6 HI4 HTA hi hq0 hq1 hq2 HNM htm6
        go_wp2_with (at_builtin; refine wpList_app_at _ rfl (.tmp 200) (.tmp 201) 30 rfl w.heap.size 5 i0 (.int .u8 0) 1 1 Try.underlying30 HIB.out.1 HIB.out.2.1 HIB.out.2.2.1 HIB.out.2.2.2 rfl (by decide) (.slice Av t cv) t (bv (al.take t)) rfl HI6.out.got w6.heap.size A6 m c6 (bv ((al.drop t).take m)) rfl HRD.out (ones_bv _) HD2.out.1 HD2.out.2 HI6.out.hr.low.size ?_)
        intro v8 w8 ho8 hg8 hn8
        have hI8 := HI6.out.push hg8 ho8 hn8
        obtain ⟨A8, c8, e8, hc8, _⟩ := own_form ho8
        subst e8
        obtain ⟨T, hT⟩ : ∃ T, t + m = T := ⟨_, rfl⟩
        rw [hT] at hI8 hc8 htm7
        have HS7 : Hid (SuP al E z h true T (takenS s1 m K6)) := by rw [← hT]; exact HS6.out
        have HMY : Hid (max z h = T ∧ z ≤ T) := by rw [← hT]; exact HMX.out
        have HI8 := Lib.hid hI8
        rw [hT]
        clear hT hI8 ho8 hg8 hn8 HI6 HS6 HMX HRD HD2
        have HTP : Hid (0 ≤ (takenS s1 (m : Int) K6).top ∧ (takenS s1 (m : Int) K6).top ≤ 4611686018427387903) := by have := (HS7.out.bk rfl).1; show 0 ≤ _ ∧ _; omega
        have HTK : Hid (0 ≤ (takenS s1 (m : Int) K6).tk ∧ (takenS s1 (m : Int) K6).tk ≤ 4611686018427387903) := by have := HS7.out.tk; show 0 ≤ _ ∧ _; omega
        have HRE : Hid ((takenS s1 (m : Int) K6).top - (takenS s1 (m : Int) K6).tk = (E : Int) - (T : Int)) := by show _ = _; rw [(HS7.out.bk rfl).1, HS7.out.tk]
        have hmx2 : max (z : Int) (h : Int) = (T : Int) := by have := HMY.out.1; omega
        have hwr8 : IntKind.i64.wrap ((E : Int) - (T : Int)) = (E : Int) - (T : Int) := IntWalk.i64_in _ (by omega)
        have hTL : (T : Int) ≤ (c1 : Int) := by omega
        have hT8 : (T : Int) ≤ (c8 : Int) := by omega
        obtain ⟨sx, hsx⟩ : ∃ x, strOf (al.take T) = x := ⟨_, rfl⟩
        have HSX := Lib.hid hsx
        have HS26 : Hid (∀ W, Below w8.heap.size w8 W → (fun W : World => Below w8.heap.size w8 W ∧ (convert 30 9 (.slice A8 T c8)).run Try.prog W = .ok (.string sx) W ∧ (convert 30 9 (.slice A1 T c1)).run Try.prog W = .ok (.string sx) W) W) := fun W hW => by
          have h1 := (HI8.out.below hW).gotStr
          have h2 := (HI8.out.below hW).allStr T (by have := HLE.out; omega) c1
          rw [HSX.out] at h1 h2
          exact ⟨hW, h1, h2⟩
        clear hsx
        go_wp2_with fail
        go_upto_region 38 with (fail)
        refine wp_region_held_drew (S := (fun W : World => Below w8.heap.size w8 W ∧ (convert 30 9 (.slice A8 T c8)).run Try.prog W = .ok (.string sx) W ∧ (convert 30 9 (.slice A1 T c1)).run Try.prog W = .ok (.string sx) W)) (by kernel_rfl) ?_ (fun hHeld => ?_)
        · exact HS26.out _ ((Below.refl _ _).drew)
        refine wpAnyH_take (i := 0) (v := ?_) rfl (by kernel_rfl) (by kernel_rfl) (by kernel_rfl) (fun _ _ _ h => h) (Or.inl ⟨by rfl, ?_⟩) (by assumption) ?_
        rotate_left
        · intro w hSw; (try dsimp only at hSw); go_simp; try with_reducible rfl
        go_simp
        refine wpAnyH_take (i := 1) (v := ?_) rfl (by kernel_rfl) (by kernel_rfl) (by kernel_rfl) (fun _ _ _ h => h) (Or.inl ⟨by rfl, ?_⟩) (by assumption) ?_
        rotate_left
        · intro w hSw; (try dsimp only at hSw); go_simp; try with_reducible rfl
        go_simp
        refine wpAnyH_take (i := 2) (v := ?_) rfl (by kernel_rfl) (by kernel_rfl) (by kernel_rfl) (fun _ _ _ h => h) (Or.inl ⟨by rfl, ?_⟩) (by assumption) ?_
        rotate_left
        · intro w hSw; (try dsimp only at hSw); go_simp; try with_reducible rfl
        go_simp
        refine wpAnyH_take (i := 3) (v := ?_) rfl (by kernel_rfl) (by kernel_rfl) (by kernel_rfl) (fun _ _ _ h => h) (Or.inl ⟨by rfl, ?_⟩) (by assumption) ?_
        rotate_left
        · intro w hSw; (try dsimp only at hSw); go_simp; try with_reducible rfl
        go_simp
        refine wpAnyH_take (i := 4) (v := ?_) rfl (by kernel_rfl) (by kernel_rfl) (by kernel_rfl) (fun _ _ _ h => h) (Or.inl ⟨by rfl, ?_⟩) (by assumption) ?_
        rotate_left
        · intro w hSw; (try dsimp only at hSw); go_simp; try with_reducible rfl
        go_simp
        refine wpAnyH_take (i := 5) (v := ?_) rfl (by kernel_rfl) (by kernel_rfl) (by kernel_rfl) (fun _ _ _ h => h) (Or.inl ⟨by rfl, ?_⟩) (by assumption) ?_
        rotate_left
        · intro w hSw; (try dsimp only at hSw); go_simp; try with_reducible rfl
        go_simp
        refine wpAnyH_take (i := 6) (v := ?_) rfl (by kernel_rfl) (by kernel_rfl) (by kernel_rfl) (fun _ _ _ h => h) (Or.inl ⟨by rfl, ?_⟩) (by assumption) ?_
        rotate_left
        · intro w hSw; (try dsimp only at hSw); go_simp; try with_reducible rfl
        go_simp
        refine wpAnyH_take (i := 7) (v := ?_) rfl (by kernel_rfl) (by kernel_rfl) (by kernel_rfl) (fun _ _ _ h => h) (Or.inl ⟨by rfl, ?_⟩) (by assumption) ?_
        rotate_left
        · intro w hSw; (try dsimp only at hSw); go_simp; try with_reducible rfl
        go_simp
        refine wpAnyH_take (i := 8) (v := ?_) rfl (by kernel_rfl) (by kernel_rfl) (by kernel_rfl) (fun _ _ _ h => h) (Or.inl ⟨by rfl, ?_⟩) (by assumption) ?_
        rotate_left
        · intro w hSw; (try dsimp only at hSw); go_simp; try with_reducible rfl
        go_simp
        refine wpAnyH_take (i := 9) (v := ?_) rfl (by kernel_rfl) (by kernel_rfl) (by kernel_rfl) (fun _ _ _ h => h) (Or.inl ⟨by rfl, ?_⟩) (by assumption) ?_
        rotate_left
        · intro w hSw; (try dsimp only at hSw); go_simp; try with_reducible rfl
        go_simp
        refine wpAnyH_take (i := 10) (v := ?_) rfl (by kernel_rfl) (by kernel_rfl) (by kernel_rfl) (fun _ _ _ h => h) (Or.inl ⟨by rfl, ?_⟩) (by assumption) ?_
        rotate_left
        · intro w hSw; (try dsimp only at hSw); go_simp; try with_reducible rfl
        go_simp
        refine wpAnyH_take (i := 11) (v := ?_) rfl (by kernel_rfl) (by kernel_rfl) (by kernel_rfl) (fun _ _ _ h => h) (Or.inl ⟨by rfl, ?_⟩) (by assumption) ?_
        rotate_left
        · intro w hSw; (try dsimp only at hSw); go_simp; try with_reducible rfl
        go_simp
        refine wpAnyH_take (i := 12) (v := ?_) rfl (by kernel_rfl) (by kernel_rfl) (by kernel_rfl) (fun _ _ _ h => h) (Or.inl ⟨by rfl, ?_⟩) (by assumption) ?_
        rotate_left
        · intro w hSw; (try dsimp only at hSw); go_simp; try with_reducible rfl
        go_simp
        refine wpAnyH_take (i := 13) (v := ?_) rfl (by kernel_rfl) (by kernel_rfl) (by kernel_rfl) (fun _ _ _ h => h) (Or.inl ⟨by rfl, ?_⟩) (by assumption) ?_
        rotate_left
        · intro w hSw; (try dsimp only at hSw); go_simp; try with_reducible rfl
        go_simp
        refine wpAnyH_take (i := 14) (v := ?_) rfl (by kernel_rfl) (by kernel_rfl) (by kernel_rfl) (fun _ _ _ h => h) (Or.inl ⟨by rfl, ?_⟩) (by assumption) ?_
        rotate_left
        · intro w hSw; (try dsimp only at hSw); go_simp; try with_reducible rfl
        go_simp
        refine wpAnyH_take (i := 15) (v := ?_) rfl (by kernel_rfl) (by kernel_rfl) (by kernel_rfl) (fun _ _ _ h => h) (Or.inl ⟨by rfl, ?_⟩) (by assumption) ?_
        rotate_left
        · intro w hSw; (try dsimp only at hSw); go_simp; try with_reducible rfl
        go_simp
        refine wpAnyH_take (i := 16) (v := ?_) rfl (by kernel_rfl) (by kernel_rfl) (by kernel_rfl) (fun _ _ _ h => h) (Or.inl ⟨by rfl, ?_⟩) (by assumption) ?_
        rotate_left
        · intro w hSw; (try dsimp only at hSw); go_simp; try with_reducible rfl
        go_simp
        refine wpAnyH_take (i := 17) (v := ?_) rfl (by kernel_rfl) (by kernel_rfl) (by kernel_rfl) (fun _ _ _ h => h) (Or.inl ⟨by rfl, ?_⟩) (by assumption) ?_
        rotate_left
        · intro w hSw; (try dsimp only at hSw); go_simp; try with_reducible rfl
        go_simp
        refine wpAnyH_take (i := 18) (v := ?_) rfl (by kernel_rfl) (by kernel_rfl) (by kernel_rfl) (fun _ _ _ h => h) (Or.inl ⟨by rfl, ?_⟩) (by assumption) ?_
        rotate_left
        · intro w hSw; (try dsimp only at hSw); go_simp; try with_reducible rfl
        go_simp
        refine wpAnyH_take (i := 19) (v := ?_) rfl (by kernel_rfl) (by kernel_rfl) (by kernel_rfl) (fun _ _ _ h => h) (Or.inl ⟨by rfl, ?_⟩) (by assumption) ?_
        rotate_left
        · intro w hSw; (try dsimp only at hSw); go_simp; try with_reducible rfl
        go_simp
        refine wpAnyH_take (i := 20) (v := ?_) rfl (by kernel_rfl) (by kernel_rfl) (by kernel_rfl) (fun _ _ _ h => h) (Or.inl ⟨by rfl, ?_⟩) (by assumption) ?_
        rotate_left
        · intro w hSw; (try dsimp only at hSw); go_simp; try with_reducible rfl
        go_simp
        refine wpAnyH_take (i := 21) (v := ?_) rfl (by kernel_rfl) (by kernel_rfl) (by kernel_rfl) (fun _ _ _ h => h) (Or.inl ⟨by rfl, ?_⟩) (by assumption) ?_
        rotate_left
        · intro w hSw; (try dsimp only at hSw); go_simp; try with_reducible rfl
        go_simp
        refine wpAnyH_take (i := 22) (v := ?_) rfl (by kernel_rfl) (by kernel_rfl) (by kernel_rfl) (fun _ _ _ h => h) (Or.inl ⟨by rfl, ?_⟩) (by assumption) ?_
        rotate_left
        · intro w hSw; (try dsimp only at hSw); go_simp; try with_reducible rfl
        go_simp
        refine wpAnyH_take (i := 23) (v := ?_) rfl (by kernel_rfl) (by kernel_rfl) (by kernel_rfl) (fun _ _ _ h => h) (Or.inl ⟨by rfl, ?_⟩) (by assumption) ?_
        rotate_left
        · intro w hSw; (try dsimp only at hSw); go_simp; try with_reducible rfl
        go_simp
        refine wpAnyH_take (i := 24) (v := ?_) rfl (by kernel_rfl) (by kernel_rfl) (by kernel_rfl) (fun _ _ _ h => h) (Or.inl ⟨by rfl, ?_⟩) (by assumption) ?_
        rotate_left
        · intro w hSw; (try dsimp only at hSw); go_simp; try with_reducible rfl
        go_simp
        refine wpAnyH_take (i := 25) (v := ?_) rfl (by kernel_rfl) (by kernel_rfl) (by kernel_rfl) (fun _ _ _ h => h) (Or.inl ⟨by rfl, ?_⟩) (by assumption) ?_
        rotate_left
        · intro w hSw; (try dsimp only at hSw); go_simp; try with_reducible rfl
        go_simp
        refine wpAnyH_take (i := 27) (v := ?_) rfl (by kernel_rfl) (by kernel_rfl) (by kernel_rfl) (fun _ _ _ h => h) (Or.inl ⟨by rfl, ?_⟩) (by assumption) ?_
        rotate_left
        · intro w hSw; (try dsimp only at hSw); go_simp; try with_reducible rfl
        go_simp
        refine wpAnyH_take (i := 28) (v := ?_) rfl (by kernel_rfl) (by kernel_rfl) (by kernel_rfl) (fun _ _ _ h => h) (Or.inl ⟨by rfl, ?_⟩) (by assumption) ?_
        rotate_left
        · intro w hSw; (try dsimp only at hSw); go_simp; try with_reducible rfl
        go_simp
        refine wpAnyH_take (i := 29) (v := ?_) rfl (by kernel_rfl) (by kernel_rfl) (by kernel_rfl) (fun _ _ _ h => h) (Or.inl ⟨by rfl, ?_⟩) (by assumption) ?_
        rotate_left
        · intro w hSw; (try dsimp only at hSw); go_simp; try with_reducible rfl
        go_simp
        refine wpAnyH_take (i := 30) (v := ?_) rfl (by kernel_rfl) (by kernel_rfl) (by kernel_rfl) (fun _ _ _ h => h) (Or.inl ⟨by rfl, ?_⟩) (by assumption) ?_
        rotate_left
        · intro w hSw; (try dsimp only at hSw); go_simp; try with_reducible rfl
        go_simp
        refine wpAnyH_ready (rs := [26]) (by kernel_rfl) (by simp) ?_
        refine AllReadyH.cons rfl (fun K hK => ?_) AllReadyH.nil
        go_simp
        have HC := Lib.hid (rest_hr (HI8.out.hr.below (hHeld.1)) HTP.out HTK.out)
        rw [HRE.out] at HC
        refine HC.out.mono ?_
        rintro e w9 ⟨rfl, q9, hw9⟩
        have HB9 : Hid (Below w8.heap.size w8 w9) := by rw [hw9]; exact ⟨hHeld.1.os, hHeld.1.tape, hHeld.1.output, hHeld.1.size, hHeld.1.block⟩
        clear hw9
        refine hK.out _ _ ?_ (fun hHeld => ?_)
        · exact HS26.out _ HB9.out
        clear hK K
        go_simp
        refine wpAnyH_take (i := 31) (v := ?_) rfl (by kernel_rfl) (by kernel_rfl) (by kernel_rfl) (fun _ _ _ h => h) (Or.inl ⟨by rfl, ?_⟩) (by assumption) ?_
        rotate_left
        · intro w hSw; (try dsimp only at hSw); go_simp; try with_reducible rfl
        go_simp
        refine wpAnyH_take (i := 32) (v := ?_) rfl (by kernel_rfl) (by kernel_rfl) (by kernel_rfl) (fun _ _ _ h => h) (Or.inl ⟨by rfl, ?_⟩) (by assumption) ?_
        rotate_left
        · intro w hSw; (try dsimp only at hSw); go_simp; try with_reducible rfl
        go_simp
        refine wpAnyH_take (i := 33) (v := ?_) rfl (by kernel_rfl) (by kernel_rfl) (by kernel_rfl) (fun _ _ _ h => h) (Or.inl ⟨by rfl, ?_⟩) (by assumption) ?_
        rotate_left
        · intro w hSw; (try dsimp only at hSw); go_simp; try with_reducible rfl
        go_simp
        refine wpAnyH_done (by kernel_rfl) ?_ _

        have HBF := Lib.hid (HI8.out.hr.low.trans (HB9.out.mono HI8.out.hr.low.size))
        go_wp2_with fail
        go_ret
        exact ⟨rfl, HBF.out⟩
      case neg =>
        have hjnI : ¬ (j : Int) = (N : Int) := by omega
        obtain ⟨F, s, n0, hI, hS, hn0⟩ := HK.out
        have HB2 : Hid (b = decide (wh < j + 1)) := HB2
        have hlti : (j : Int) < (N : Int) := by omega
        have HJN : Hid (j + 1 ≤ N) := by show _ ≤ _; omega
        obtain ⟨bb, o, hA, hbw, hcs⟩ := HRS.out.rd (by omega)
        subst hA
        obtain ⟨x, hx⟩ : ∃ x, rs[j]? = some x := ⟨_, List.getElem?_eq_getElem (by rw [HRS.out.len]; omega)⟩
        obtain ⟨hxo, hxc⟩ := hcs j x hx
        obtain ⟨x0, x1, x2, x3, x4, A5, x5, c5⟩ := x
        have HZ1 : Hid (∀ W, Below w.heap.size w W → W.cell? ⟨bb, o + j * 6 + 1, none⟩ = some (.int .i64 x1)) := fun W hW => (hW.cell (p := ⟨bb, o + j * 6 + 1, none⟩) hbw).trans (hxc 1 _ rfl)
        have HZ2 : Hid (∀ W, Below w.heap.size w W → W.cell? ⟨bb, o + j * 6 + 2, none⟩ = some (.int .i64 x2)) := fun W hW => (hW.cell (p := ⟨bb, o + j * 6 + 2, none⟩) hbw).trans (hxc 2 _ rfl)
        have HZ3 : Hid (∀ W, Below w.heap.size w W → W.cell? ⟨bb, o + j * 6 + 3, none⟩ = some (.int .i64 x3)) := fun W hW => (hW.cell (p := ⟨bb, o + j * 6 + 3, none⟩) hbw).trans (hxc 3 _ rfl)
        have z1 := HZ1.out _ hI.hr.low
        have z2 := HZ2.out _ hI.hr.low
        clear hcs hx hxo hxc HZ1 HZ2 HK
        have hS1 : (0 : Int) < ((E : Int) + 1) := by omega
        obtain ⟨a, ha, haE⟩ : ∃ q : Nat, x1 % ((E : Int) + 1) = (q : Int) ∧ q ≤ E := ⟨(x1 % ((E : Int) + 1)).toNat, by have := Int.emod_nonneg x1 (show ((E : Int) + 1) ≠ 0 by omega); omega, by have := Int.emod_lt_of_pos x1 hS1; have := Int.emod_nonneg x1 (show ((E : Int) + 1) ≠ 0 by omega); omega⟩
        have HPA := Lib.hid (fun W => pick_any x1 ((E : Int) + 1) W hS1 (by omega))
        rw [ha] at HPA
        have hS2 : (0 : Int) < ((E : Int) - (a : Int) + 1) := by omega
        obtain ⟨n, hn, hnE⟩ : ∃ q : Nat, x2 % ((E : Int) - (a : Int) + 1) = (q : Int) ∧ a + q ≤ E := ⟨(x2 % ((E : Int) - (a : Int) + 1)).toNat, by have := Int.emod_nonneg x2 (show ((E : Int) - (a : Int) + 1) ≠ 0 by omega); omega, by have := Int.emod_lt_of_pos x2 hS2; have := Int.emod_nonneg x2 (show ((E : Int) - (a : Int) + 1) ≠ 0 by omega); omega⟩
        have HPN := Lib.hid (fun W => pick_any x2 ((E : Int) - (a : Int) + 1) W hS2 (by omega))
        rw [hn] at HPN
        obtain ⟨mo, hmo⟩ : ∃ q : Int, x3 % 60 = q := ⟨_, rfl⟩
        have HPM := Lib.hid (fun W => pick_any x3 60 W (by decide) (by decide))
        rw [hmo] at HPM
        have hwa1 : IntKind.i64.wrap ((E : Int) - (a : Int)) = (E : Int) - (a : Int) := IntWalk.i64_in _ (by omega)
        have hwa2 : IntKind.i64.wrap ((E : Int) - (a : Int) + 1) = (E : Int) - (a : Int) + 1 := IntWalk.i64_in _ (by omega)
        have hwa3 : IntKind.i64.wrap ((a : Int) + (n : Int)) = ((a + n : Nat) : Int) := by rw [IntWalk.i64_in _ (by omega)]; omega
        obtain ⟨s1, f1, hp1, hs1, _⟩ := hS.put (by omega) (by have := HLE.out; omega) a n hnE
        have hlS := sub_len al a n (by have := HLE.out; omega)
        have HP := Lib.hid (put_hr hI.hr hS.ri.num (a : Int) false (c1 - a) (by rw [hlS]; omega) (hI.all.sub c1 a n (by have := HLE.out; omega) (by have := HLE.out; omega)) (by rw [hlS]; omega) (fun x hx => HAL.out x (List.mem_of_mem_drop (List.mem_of_mem_take hx))) (by rw [hlS]; omega))
        rw [hp1, hlS] at HP
        have HI := Lib.hid hI
        have HS1 := Lib.hid hs1
        have HN0 := Lib.hid hn0
        obtain ⟨XA, hXA⟩ : ∃ q, tailA A1 c1 a = q := ⟨_, rfl⟩
        rw [hXA] at HP
        have hXA2 : (if c1 = a then A1 else A1.map (·.add a)) = XA := hXA
        have han1 : (a : Int) ≤ ((a + n : Nat) : Int) := by omega
        have han2 : ((a + n : Nat) : Int) ≤ (c1 : Int) := by omega
        have han3 : ((a + n : Nat) : Int) - (a : Int) = (n : Int) := by omega
        have han4 : (((a + n : Nat) : Int) - (a : Int)).toNat = n := by omega
        have han5 : a + n - a = n := by omega
        clear ha hn hmo hp1 hs1 hI hS hn0 hS1 hS2 hlS hXA
        go_wp2_with fail
        refine (HPA.out _).mono ?_; rintro e w' ⟨rfl, hw'⟩; subst hw'
        go_wp2_with fail
        refine (HPN.out _).mono ?_; rintro e w' ⟨rfl, hw'⟩; subst hw'
        go_wp2_with fail
        refine HP.out.mono ?_
        rintro e w4 ⟨rfl, F4, hh4, hg4⟩
        have HI4 := Lib.hid (HI.out.call hh4 hg4)
        clear hh4 hg4 HP HI z1 z2 HPA HPN hXA2 han1 han2 han3 han4 han5 hwa1 hwa2 hwa3
        have z3 := HZ3.out _ HI4.out.hr.low
        have HIN := Lib.hid (nS_in HS1.out.ri.num HS1.out.ri.ok mo)
        obtain ⟨m, hm⟩ : ∃ q : Nat, nS s1 mo = (q : Int) := ⟨(nS s1 mo).toNat, by have := HIN.out.1; omega⟩
        have HTA := Lib.hid (take_hr HI4.out.hr HS1.out.ri.num (HS1.out.rd_num (by omega)) mo m t hm HS1.out.tk)
        have HNM := Lib.hid hm
        clear hm HIN HZ3
        go_wp2_with fail
        refine (HPM.out _).mono ?_; rintro e w' ⟨rfl, hw'⟩; subst hw'
        go_wp2_with fail
        refine HTA.out.mono ?_
        rintro e w6 ⟨A6, c6, K6, F6, rfl, hh6, hg6, hc6, hro6, hK6⟩
        obtain ⟨hs6, hsq6, htm6, hov6⟩ := HS1.out.take (by have := HLE.out; omega) mo m HNM.out K6 hK6
        obtain ⟨ov, hov⟩ : ∃ q : Int, (if b = true ∧ z ≤ t + m then (2 : Int) else 0) = q := ⟨_, rfl⟩
        obtain ⟨cd, hcd⟩ : ∃ q : Int, (if ov = 2 then s1.code else 0) = q := ⟨_, rfl⟩
        rw [hov6, hov, hcd]
        rw [hsq6] at hro6
        have HCO : Hid (b = true → s1.code = 77 ∧ t + m ≤ max z h) := fun hb => ⟨(HS1.out.bk hb).2.1, (hs6.bk hb).2.2.2.1⟩
        have HI6 := Lib.hid (HI4.out.call hh6 hg6)
        have HS6 := Lib.hid hs6
        have hl6 : ((al.drop t).take m).length = m := sub_len al t m (by have := HLE.out; omega)
        have HRD : Hid (Rd w6 w6.heap.size A6 (m * 1) (bv ((al.drop t).take m))) := by
          have := hro6.1
          rw [hl6] at this
          rw [Nat.mul_one]; exact this
        have hc6I : (m : Int) ≤ (c6 : Int) := by omega
        obtain ⟨i0, hi, hq0, hq1, hq2⟩ := info_parts infoB
        have HIB := Lib.hid (And.intro hi (And.intro hq0 (And.intro hq1 hq2)))
        have HD2 : Hid (t + m ≤ maxLen ∧ (t + m) * 1 ≤ 140737488355328) := ⟨by unfold maxLen; omega, by omega⟩
        have htm7 : t + m ≤ E := htm6
        have HOV := Lib.hid hov
        have HCD := Lib.hid hcd
        clear hh6 hg6 hc6 hro6 hK6 hs6 hsq6 hov6 hl6 HI4 HTA hi hq0 hq1 hq2 HNM htm6 z3 HPM hov hcd
        go_wp2_with (at_builtin; refine wpList_app_at _ rfl (.tmp 140) (.tmp 141) 30 rfl w.heap.size 5 i0 (.int .u8 0) 1 1 Try.underlying30 HIB.out.1 HIB.out.2.1 HIB.out.2.2.1 HIB.out.2.2.2 rfl (by decide) (.slice Av t cv) t (bv (al.take t)) rfl HI6.out.got w6.heap.size A6 m c6 (bv ((al.drop t).take m)) rfl HRD.out (ones_bv _) HD2.out.1 HD2.out.2 HI6.out.hr.low.size ?_)
        intro v8 w8 ho8 hg8 hn8
        have hI8 := HI6.out.push hg8 ho8 hn8
        obtain ⟨A8, c8, e8, hc8, _⟩ := own_form ho8
        subst e8
        have HJ8 : Hid (SuJ w w8 p A1 al E z h b (.slice A8 (t + m) c8) (j + 1)) := ⟨F6, _, _, t + m, hI8, HS6.out, by have := HN0.out; omega⟩
        obtain ⟨T, hT⟩ : ∃ T, t + m = T := ⟨_, rfl⟩
        have hov := HOV.out
        have hco := HCO.out
        rw [hT] at hI8 hc8 htm7 HJ8 hov hco
        rw [hT]
        have htL : T ≤ L := by omega
        have HI8 := Lib.hid hI8
        clear hT hI8 ho8 hg8 hn8 HI6 HS6 HRD HD2 HOV HCO HIB
        have hmn2 : min (L : Int) (T : Int) = (T : Int) := by omega
        obtain ⟨mz, hmz⟩ : ∃ q : Nat, max z h = q := ⟨_, rfl⟩
        have hmx2 : max (z : Int) (h : Int) = (mz : Int) := by omega
        rw [hmz] at hco
        have hTL : (T : Int) ≤ (c1 : Int) := by omega
        have hT8 : (T : Int) ≤ (c8 : Int) := by omega
        obtain ⟨sx, hsx⟩ : ∃ x, strOf (al.take T) = x := ⟨_, rfl⟩
        have HSX := Lib.hid hsx
        have HS33 : Hid (∀ W, Below w8.heap.size w8 W → (fun W : World => Below w8.heap.size w8 W ∧ (convert 30 9 (.slice A8 T c8)).run Try.prog W = .ok (.string sx) W ∧ (convert 30 9 (.slice A1 T c1)).run Try.prog W = .ok (.string sx) W) W) := fun W hW => by
          have h1 := (HI8.out.below hW).gotStr
          have h2 := (HI8.out.below hW).allStr T (by have := HLE.out; omega) c1
          rw [HSX.out] at h1 h2
          exact ⟨hW, h1, h2⟩
        clear hsx hmz HI8
        by_cases hzT : (z : Int) ≤ (T : Int)
        · cases b
          · have e : ov = 0 := by rw [← hov]; simp
            subst e
            have h0 : h = 0 := hbh rfl
            subst h0
            clear hov hco
            go_upto_region 33 with (fail)
            refine wp_region_held_drew (S := (fun W : World => Below w8.heap.size w8 W ∧ (convert 30 9 (.slice A8 T c8)).run Try.prog W = .ok (.string sx) W ∧ (convert 30 9 (.slice A1 T c1)).run Try.prog W = .ok (.string sx) W)) (by kernel_rfl) ?_ (fun hHeld => ?_)
            · exact HS33.out _ ((Below.refl _ _).drew)
            refine wpAnyH_take (i := 0) (v := ?_) rfl (by kernel_rfl) (by kernel_rfl) (by kernel_rfl) (fun _ _ _ h => h) (Or.inl ⟨by rfl, ?_⟩) (by assumption) ?_
            rotate_left
            · intro w hSw; (try dsimp only at hSw); go_simp; try with_reducible rfl
            go_simp
            refine wpAnyH_take (i := 1) (v := ?_) rfl (by kernel_rfl) (by kernel_rfl) (by kernel_rfl) (fun _ _ _ h => h) (Or.inl ⟨by rfl, ?_⟩) (by assumption) ?_
            rotate_left
            · intro w hSw; (try dsimp only at hSw); go_simp; try with_reducible rfl
            go_simp
            refine wpAnyH_take (i := 2) (v := ?_) rfl (by kernel_rfl) (by kernel_rfl) (by kernel_rfl) (fun _ _ _ h => h) (Or.inl ⟨by rfl, ?_⟩) (by assumption) ?_
            rotate_left
            · intro w hSw; (try dsimp only at hSw); go_simp; try with_reducible rfl
            go_simp
            refine wpAnyH_take (i := 3) (v := ?_) rfl (by kernel_rfl) (by kernel_rfl) (by kernel_rfl) (fun _ _ _ h => h) (Or.inl ⟨by rfl, ?_⟩) (by assumption) ?_
            rotate_left
            · intro w hSw; (try dsimp only at hSw); go_simp; try with_reducible rfl
            go_simp
            refine wpAnyH_take (i := 4) (v := ?_) rfl (by kernel_rfl) (by kernel_rfl) (by kernel_rfl) (fun _ _ _ h => h) (Or.inl ⟨by rfl, ?_⟩) (by assumption) ?_
            rotate_left
            · intro w hSw; (try dsimp only at hSw); go_simp; try with_reducible rfl
            go_simp
            refine wpAnyH_take (i := 5) (v := ?_) rfl (by kernel_rfl) (by kernel_rfl) (by kernel_rfl) (fun _ _ _ h => h) (Or.inl ⟨by rfl, ?_⟩) (by assumption) ?_
            rotate_left
            · intro w hSw; (try dsimp only at hSw); go_simp; try with_reducible rfl
            go_simp
            refine wpAnyH_take (i := 6) (v := ?_) rfl (by kernel_rfl) (by kernel_rfl) (by kernel_rfl) (fun _ _ _ h => h) (Or.inl ⟨by rfl, ?_⟩) (by assumption) ?_
            rotate_left
            · intro w hSw; (try dsimp only at hSw); go_simp; try with_reducible rfl
            go_simp
            refine wpAnyH_take (i := 7) (v := ?_) rfl (by kernel_rfl) (by kernel_rfl) (by kernel_rfl) (fun _ _ _ h => h) (Or.inl ⟨by rfl, ?_⟩) (by assumption) ?_
            rotate_left
            · intro w hSw; (try dsimp only at hSw); go_simp; try with_reducible rfl
            go_simp
            refine wpAnyH_take (i := 8) (v := ?_) rfl (by kernel_rfl) (by kernel_rfl) (by kernel_rfl) (fun _ _ _ h => h) (Or.inl ⟨by rfl, ?_⟩) (by assumption) ?_
            rotate_left
            · intro w hSw; (try dsimp only at hSw); go_simp; try with_reducible rfl
            go_simp
            refine wpAnyH_take (i := 9) (v := ?_) rfl (by kernel_rfl) (by kernel_rfl) (by kernel_rfl) (fun _ _ _ h => h) (Or.inl ⟨by rfl, ?_⟩) (by assumption) ?_
            rotate_left
            · intro w hSw; (try dsimp only at hSw); go_simp; try with_reducible rfl
            go_simp
            refine wpAnyH_take (i := 10) (v := ?_) rfl (by kernel_rfl) (by kernel_rfl) (by kernel_rfl) (fun _ _ _ h => h) (Or.inl ⟨by rfl, ?_⟩) (by assumption) ?_
            rotate_left
            · intro w hSw; (try dsimp only at hSw); go_simp; try with_reducible rfl
            go_simp
            refine wpAnyH_take (i := 11) (v := ?_) rfl (by kernel_rfl) (by kernel_rfl) (by kernel_rfl) (fun _ _ _ h => h) (Or.inl ⟨by rfl, ?_⟩) (by assumption) ?_
            rotate_left
            · intro w hSw; (try dsimp only at hSw); go_simp; try with_reducible rfl
            go_simp
            refine wpAnyH_take (i := 12) (v := ?_) rfl (by kernel_rfl) (by kernel_rfl) (by kernel_rfl) (fun _ _ _ h => h) (Or.inl ⟨by rfl, ?_⟩) (by assumption) ?_
            rotate_left
            · intro w hSw; (try dsimp only at hSw); go_simp; try with_reducible rfl
            go_simp
            refine wpAnyH_take (i := 13) (v := ?_) rfl (by kernel_rfl) (by kernel_rfl) (by kernel_rfl) (fun _ _ _ h => h) (Or.inl ⟨by rfl, ?_⟩) (by assumption) ?_
            rotate_left
            · intro w hSw; (try dsimp only at hSw); go_simp; try with_reducible rfl
            go_simp
            refine wpAnyH_take (i := 14) (v := ?_) rfl (by kernel_rfl) (by kernel_rfl) (by kernel_rfl) (fun _ _ _ h => h) (Or.inl ⟨by rfl, ?_⟩) (by assumption) ?_
            rotate_left
            · intro w hSw; (try dsimp only at hSw); go_simp; try with_reducible rfl
            go_simp
            refine wpAnyH_take (i := 15) (v := ?_) rfl (by kernel_rfl) (by kernel_rfl) (by kernel_rfl) (fun _ _ _ h => h) (Or.inl ⟨by rfl, ?_⟩) (by assumption) ?_
            rotate_left
            · intro w hSw; (try dsimp only at hSw); go_simp; try with_reducible rfl
            go_simp
            refine wpAnyH_take (i := 16) (v := undef) rfl (by kernel_rfl) (by kernel_rfl) (by kernel_rfl) (fun _ _ _ h => h) (Or.inr ⟨by rfl, rfl⟩) (by assumption) ?_
            go_simp
            refine wpAnyH_take (i := 17) (v := undef) rfl (by kernel_rfl) (by kernel_rfl) (by kernel_rfl) (fun _ _ _ h => h) (Or.inr ⟨by rfl, rfl⟩) (by assumption) ?_
            go_simp
            refine wpAnyH_take (i := 18) (v := undef) rfl (by kernel_rfl) (by kernel_rfl) (by kernel_rfl) (fun _ _ _ h => h) (Or.inr ⟨by rfl, rfl⟩) (by assumption) ?_
            go_simp
            refine wpAnyH_take (i := 19) (v := undef) rfl (by kernel_rfl) (by kernel_rfl) (by kernel_rfl) (fun _ _ _ h => h) (Or.inr ⟨by rfl, rfl⟩) (by assumption) ?_
            go_simp
            refine wpAnyH_take (i := 20) (v := ?_) rfl (by kernel_rfl) (by kernel_rfl) (by kernel_rfl) (fun _ _ _ h => h) (Or.inl ⟨by rfl, ?_⟩) (by assumption) ?_
            rotate_left
            · intro w hSw; (try dsimp only at hSw); go_simp; try with_reducible rfl
            go_simp
            refine wpAnyH_take (i := 21) (v := ?_) rfl (by kernel_rfl) (by kernel_rfl) (by kernel_rfl) (fun _ _ _ h => h) (Or.inl ⟨by rfl, ?_⟩) (by assumption) ?_
            rotate_left
            · intro w hSw; (try dsimp only at hSw); go_simp; try with_reducible rfl
            go_simp
            refine wpAnyH_take (i := 22) (v := ?_) rfl (by kernel_rfl) (by kernel_rfl) (by kernel_rfl) (fun _ _ _ h => h) (Or.inl ⟨by rfl, ?_⟩) (by assumption) ?_
            rotate_left
            · intro w hSw; (try dsimp only at hSw); go_simp; try with_reducible rfl
            go_simp
            refine wpAnyH_take (i := 23) (v := ?_) rfl (by kernel_rfl) (by kernel_rfl) (by kernel_rfl) (fun _ _ _ h => h) (Or.inl ⟨by rfl, ?_⟩) (by assumption) ?_
            rotate_left
            · intro w hSw; (try dsimp only at hSw); go_simp; try with_reducible rfl
            go_simp
            refine wpAnyH_take (i := 24) (v := ?_) rfl (by kernel_rfl) (by kernel_rfl) (by kernel_rfl) (fun _ _ _ h => h) (Or.inl ⟨by rfl, ?_⟩) (by assumption) ?_
            rotate_left
            · intro w hSw; (try dsimp only at hSw); go_simp; try with_reducible rfl
            go_simp
            refine wpAnyH_take (i := 25) (v := ?_) rfl (by kernel_rfl) (by kernel_rfl) (by kernel_rfl) (fun _ _ _ h => h) (Or.inl ⟨by rfl, ?_⟩) (by assumption) ?_
            rotate_left
            · intro w hSw; (try dsimp only at hSw); go_simp; try with_reducible rfl
            go_simp
            refine wpAnyH_take (i := 26) (v := ?_) rfl (by kernel_rfl) (by kernel_rfl) (by kernel_rfl) (fun _ _ _ h => h) (Or.inl ⟨by rfl, ?_⟩) (by assumption) ?_
            rotate_left
            · intro w hSw; (try dsimp only at hSw); go_simp; try with_reducible rfl
            go_simp
            refine wpAnyH_take (i := 27) (v := undef) rfl (by kernel_rfl) (by kernel_rfl) (by kernel_rfl) (fun _ _ _ h => h) (Or.inr ⟨by rfl, rfl⟩) (by assumption) ?_
            go_simp
            refine wpAnyH_take (i := 28) (v := undef) rfl (by kernel_rfl) (by kernel_rfl) (by kernel_rfl) (fun _ _ _ h => h) (Or.inr ⟨by rfl, rfl⟩) (by assumption) ?_
            go_simp
            refine wpAnyH_take (i := 29) (v := ?_) rfl (by kernel_rfl) (by kernel_rfl) (by kernel_rfl) (fun _ _ _ h => h) (Or.inl ⟨by rfl, ?_⟩) (by assumption) ?_
            rotate_left
            · intro w hSw; (try dsimp only at hSw); go_simp; try with_reducible rfl
            go_simp
            refine wpAnyH_take (i := 30) (v := ?_) rfl (by kernel_rfl) (by kernel_rfl) (by kernel_rfl) (fun _ _ _ h => h) (Or.inl ⟨by rfl, ?_⟩) (by assumption) ?_
            rotate_left
            · intro w hSw; (try dsimp only at hSw); go_simp; try with_reducible rfl
            go_simp
            refine wpAnyH_take (i := 31) (v := ?_) rfl (by kernel_rfl) (by kernel_rfl) (by kernel_rfl) (fun _ _ _ h => h) (Or.inl ⟨by rfl, ?_⟩) (by assumption) ?_
            rotate_left
            · intro w hSw; (try dsimp only at hSw); go_simp; try with_reducible rfl
            go_simp
            refine wpAnyH_take (i := 32) (v := ?_) rfl (by kernel_rfl) (by kernel_rfl) (by kernel_rfl) (fun _ _ _ h => h) (Or.inl ⟨by rfl, ?_⟩) (by assumption) ?_
            rotate_left
            · intro w hSw; (try dsimp only at hSw); go_simp; try with_reducible rfl
            go_simp
            refine wpAnyH_take (i := 33) (v := ?_) rfl (by kernel_rfl) (by kernel_rfl) (by kernel_rfl) (fun _ _ _ h => h) (Or.inl ⟨by rfl, ?_⟩) (by assumption) ?_
            rotate_left
            · intro w hSw; (try dsimp only at hSw); go_simp; try with_reducible rfl
            go_simp
            refine wpAnyH_take (i := 34) (v := ?_) rfl (by kernel_rfl) (by kernel_rfl) (by kernel_rfl) (fun _ _ _ h => h) (Or.inl ⟨by rfl, ?_⟩) (by assumption) ?_
            rotate_left
            · intro w hSw; (try dsimp only at hSw); go_simp; try with_reducible rfl
            go_simp
            refine wpAnyH_take (i := 35) (v := ?_) rfl (by kernel_rfl) (by kernel_rfl) (by kernel_rfl) (fun _ _ _ h => h) (Or.inl ⟨by rfl, ?_⟩) (by assumption) ?_
            rotate_left
            · intro w hSw; (try dsimp only at hSw); go_simp; try with_reducible rfl
            go_simp
            refine wpAnyH_take (i := 36) (v := ?_) rfl (by kernel_rfl) (by kernel_rfl) (by kernel_rfl) (fun _ _ _ h => h) (Or.inl ⟨by rfl, ?_⟩) (by assumption) ?_
            rotate_left
            · intro w hSw; (try dsimp only at hSw); go_simp; try with_reducible rfl
            go_simp
            refine wpAnyH_take (i := 37) (v := ?_) rfl (by kernel_rfl) (by kernel_rfl) (by kernel_rfl) (fun _ _ _ h => h) (Or.inl ⟨by rfl, ?_⟩) (by assumption) ?_
            rotate_left
            · intro w hSw; (try dsimp only at hSw); go_simp; try with_reducible rfl
            go_simp
            refine wpAnyH_take (i := 38) (v := undef) rfl (by kernel_rfl) (by kernel_rfl) (by kernel_rfl) (fun _ _ _ h => h) (Or.inr ⟨by rfl, rfl⟩) (by assumption) ?_
            go_simp
            refine wpAnyH_take (i := 39) (v := undef) rfl (by kernel_rfl) (by kernel_rfl) (by kernel_rfl) (fun _ _ _ h => h) (Or.inr ⟨by rfl, rfl⟩) (by assumption) ?_
            go_simp
            refine wpAnyH_take (i := 40) (v := undef) rfl (by kernel_rfl) (by kernel_rfl) (by kernel_rfl) (fun _ _ _ h => h) (Or.inr ⟨by rfl, rfl⟩) (by assumption) ?_
            go_simp
            refine wpAnyH_take (i := 41) (v := undef) rfl (by kernel_rfl) (by kernel_rfl) (by kernel_rfl) (fun _ _ _ h => h) (Or.inr ⟨by rfl, rfl⟩) (by assumption) ?_
            go_simp
            refine wpAnyH_take (i := 42) (v := undef) rfl (by kernel_rfl) (by kernel_rfl) (by kernel_rfl) (fun _ _ _ h => h) (Or.inr ⟨by rfl, rfl⟩) (by assumption) ?_
            go_simp
            refine wpAnyH_take (i := 43) (v := undef) rfl (by kernel_rfl) (by kernel_rfl) (by kernel_rfl) (fun _ _ _ h => h) (Or.inr ⟨by rfl, rfl⟩) (by assumption) ?_
            go_simp
            refine wpAnyH_take (i := 44) (v := ?_) rfl (by kernel_rfl) (by kernel_rfl) (by kernel_rfl) (fun _ _ _ h => h) (Or.inl ⟨by rfl, ?_⟩) (by assumption) ?_
            rotate_left
            · intro w hSw; (try dsimp only at hSw); go_simp; try with_reducible rfl
            go_simp
            refine wpAnyH_take (i := 45) (v := ?_) rfl (by kernel_rfl) (by kernel_rfl) (by kernel_rfl) (fun _ _ _ h => h) (Or.inl ⟨by rfl, ?_⟩) (by assumption) ?_
            rotate_left
            · intro w hSw; (try dsimp only at hSw); go_simp; try with_reducible rfl
            go_simp
            refine wpAnyH_done (by kernel_rfl) ?_ _

            have HJF : Hid (SuJ w _ p A1 al E z 0 _ (.slice A8 T c8) (j + 1)) := HJ8.out.below hHeld.1
            clear hHeld
            go_wp2_with fail
            go_roundw
            case rel => exact ⟨j + 1, z, 0, y, _, HJN.out, rfl, rfl, rfl, rfl, by go_num, hzE, HB2, hbh, HJF⟩
            case measure =>
              have := HJN.out
              simp [intOf]; omega
          · have e : ov = 2 := by rw [← hov]; simp; omega
            subst e
            have e2 : cd = 77 := by have := HCD.out; rw [if_pos rfl, (hco rfl).1] at this; exact this.symm
            subst e2
            have hTm : (T : Int) ≤ (mz : Int) := by have := (hco rfl).2; omega
            clear hov hco HCD
            go_upto_region 33 with (fail)
            refine wp_region_held_drew (S := (fun W : World => Below w8.heap.size w8 W ∧ (convert 30 9 (.slice A8 T c8)).run Try.prog W = .ok (.string sx) W ∧ (convert 30 9 (.slice A1 T c1)).run Try.prog W = .ok (.string sx) W)) (by kernel_rfl) ?_ (fun hHeld => ?_)
            · exact HS33.out _ ((Below.refl _ _).drew)
            refine wpAnyH_take (i := 0) (v := ?_) rfl (by kernel_rfl) (by kernel_rfl) (by kernel_rfl) (fun _ _ _ h => h) (Or.inl ⟨by rfl, ?_⟩) (by assumption) ?_
            rotate_left
            · intro w hSw; (try dsimp only at hSw); go_simp; try with_reducible rfl
            go_simp
            refine wpAnyH_take (i := 1) (v := ?_) rfl (by kernel_rfl) (by kernel_rfl) (by kernel_rfl) (fun _ _ _ h => h) (Or.inl ⟨by rfl, ?_⟩) (by assumption) ?_
            rotate_left
            · intro w hSw; (try dsimp only at hSw); go_simp; try with_reducible rfl
            go_simp
            refine wpAnyH_take (i := 2) (v := ?_) rfl (by kernel_rfl) (by kernel_rfl) (by kernel_rfl) (fun _ _ _ h => h) (Or.inl ⟨by rfl, ?_⟩) (by assumption) ?_
            rotate_left
            · intro w hSw; (try dsimp only at hSw); go_simp; try with_reducible rfl
            go_simp
            refine wpAnyH_take (i := 3) (v := ?_) rfl (by kernel_rfl) (by kernel_rfl) (by kernel_rfl) (fun _ _ _ h => h) (Or.inl ⟨by rfl, ?_⟩) (by assumption) ?_
            rotate_left
            · intro w hSw; (try dsimp only at hSw); go_simp; try with_reducible rfl
            go_simp
            refine wpAnyH_take (i := 4) (v := ?_) rfl (by kernel_rfl) (by kernel_rfl) (by kernel_rfl) (fun _ _ _ h => h) (Or.inl ⟨by rfl, ?_⟩) (by assumption) ?_
            rotate_left
            · intro w hSw; (try dsimp only at hSw); go_simp; try with_reducible rfl
            go_simp
            refine wpAnyH_take (i := 5) (v := ?_) rfl (by kernel_rfl) (by kernel_rfl) (by kernel_rfl) (fun _ _ _ h => h) (Or.inl ⟨by rfl, ?_⟩) (by assumption) ?_
            rotate_left
            · intro w hSw; (try dsimp only at hSw); go_simp; try with_reducible rfl
            go_simp
            refine wpAnyH_take (i := 6) (v := ?_) rfl (by kernel_rfl) (by kernel_rfl) (by kernel_rfl) (fun _ _ _ h => h) (Or.inl ⟨by rfl, ?_⟩) (by assumption) ?_
            rotate_left
            · intro w hSw; (try dsimp only at hSw); go_simp; try with_reducible rfl
            go_simp
            refine wpAnyH_take (i := 7) (v := ?_) rfl (by kernel_rfl) (by kernel_rfl) (by kernel_rfl) (fun _ _ _ h => h) (Or.inl ⟨by rfl, ?_⟩) (by assumption) ?_
            rotate_left
            · intro w hSw; (try dsimp only at hSw); go_simp; try with_reducible rfl
            go_simp
            refine wpAnyH_take (i := 8) (v := ?_) rfl (by kernel_rfl) (by kernel_rfl) (by kernel_rfl) (fun _ _ _ h => h) (Or.inl ⟨by rfl, ?_⟩) (by assumption) ?_
            rotate_left
            · intro w hSw; (try dsimp only at hSw); go_simp; try with_reducible rfl
            go_simp
            refine wpAnyH_take (i := 9) (v := ?_) rfl (by kernel_rfl) (by kernel_rfl) (by kernel_rfl) (fun _ _ _ h => h) (Or.inl ⟨by rfl, ?_⟩) (by assumption) ?_
            rotate_left
            · intro w hSw; (try dsimp only at hSw); go_simp; try with_reducible rfl
            go_simp
            refine wpAnyH_take (i := 10) (v := ?_) rfl (by kernel_rfl) (by kernel_rfl) (by kernel_rfl) (fun _ _ _ h => h) (Or.inl ⟨by rfl, ?_⟩) (by assumption) ?_
            rotate_left
            · intro w hSw; (try dsimp only at hSw); go_simp; try with_reducible rfl
            go_simp
            refine wpAnyH_take (i := 11) (v := ?_) rfl (by kernel_rfl) (by kernel_rfl) (by kernel_rfl) (fun _ _ _ h => h) (Or.inl ⟨by rfl, ?_⟩) (by assumption) ?_
            rotate_left
            · intro w hSw; (try dsimp only at hSw); go_simp; try with_reducible rfl
            go_simp
            refine wpAnyH_take (i := 12) (v := ?_) rfl (by kernel_rfl) (by kernel_rfl) (by kernel_rfl) (fun _ _ _ h => h) (Or.inl ⟨by rfl, ?_⟩) (by assumption) ?_
            rotate_left
            · intro w hSw; (try dsimp only at hSw); go_simp; try with_reducible rfl
            go_simp
            refine wpAnyH_take (i := 13) (v := ?_) rfl (by kernel_rfl) (by kernel_rfl) (by kernel_rfl) (fun _ _ _ h => h) (Or.inl ⟨by rfl, ?_⟩) (by assumption) ?_
            rotate_left
            · intro w hSw; (try dsimp only at hSw); go_simp; try with_reducible rfl
            go_simp
            refine wpAnyH_take (i := 14) (v := ?_) rfl (by kernel_rfl) (by kernel_rfl) (by kernel_rfl) (fun _ _ _ h => h) (Or.inl ⟨by rfl, ?_⟩) (by assumption) ?_
            rotate_left
            · intro w hSw; (try dsimp only at hSw); go_simp; try with_reducible rfl
            go_simp
            refine wpAnyH_take (i := 15) (v := ?_) rfl (by kernel_rfl) (by kernel_rfl) (by kernel_rfl) (fun _ _ _ h => h) (Or.inl ⟨by rfl, ?_⟩) (by assumption) ?_
            rotate_left
            · intro w hSw; (try dsimp only at hSw); go_simp; try with_reducible rfl
            go_simp
            refine wpAnyH_take (i := 16) (v := ?_) rfl (by kernel_rfl) (by kernel_rfl) (by kernel_rfl) (fun _ _ _ h => h) (Or.inl ⟨by rfl, ?_⟩) (by assumption) ?_
            rotate_left
            · intro w hSw; (try dsimp only at hSw); go_simp; try with_reducible rfl
            go_simp
            refine wpAnyH_take (i := 17) (v := ?_) rfl (by kernel_rfl) (by kernel_rfl) (by kernel_rfl) (fun _ _ _ h => h) (Or.inl ⟨by rfl, ?_⟩) (by assumption) ?_
            rotate_left
            · intro w hSw; (try dsimp only at hSw); go_simp; try with_reducible rfl
            go_simp
            refine wpAnyH_take (i := 18) (v := ?_) rfl (by kernel_rfl) (by kernel_rfl) (by kernel_rfl) (fun _ _ _ h => h) (Or.inl ⟨by rfl, ?_⟩) (by assumption) ?_
            rotate_left
            · intro w hSw; (try dsimp only at hSw); go_simp; try with_reducible rfl
            go_simp
            refine wpAnyH_take (i := 19) (v := ?_) rfl (by kernel_rfl) (by kernel_rfl) (by kernel_rfl) (fun _ _ _ h => h) (Or.inl ⟨by rfl, ?_⟩) (by assumption) ?_
            rotate_left
            · intro w hSw; (try dsimp only at hSw); go_simp; try with_reducible rfl
            go_simp
            refine wpAnyH_take (i := 20) (v := ?_) rfl (by kernel_rfl) (by kernel_rfl) (by kernel_rfl) (fun _ _ _ h => h) (Or.inl ⟨by rfl, ?_⟩) (by assumption) ?_
            rotate_left
            · intro w hSw; (try dsimp only at hSw); go_simp; try with_reducible rfl
            go_simp
            refine wpAnyH_take (i := 21) (v := ?_) rfl (by kernel_rfl) (by kernel_rfl) (by kernel_rfl) (fun _ _ _ h => h) (Or.inl ⟨by rfl, ?_⟩) (by assumption) ?_
            rotate_left
            · intro w hSw; (try dsimp only at hSw); go_simp; try with_reducible rfl
            go_simp
            refine wpAnyH_take (i := 22) (v := ?_) rfl (by kernel_rfl) (by kernel_rfl) (by kernel_rfl) (fun _ _ _ h => h) (Or.inl ⟨by rfl, ?_⟩) (by assumption) ?_
            rotate_left
            · intro w hSw; (try dsimp only at hSw); go_simp; try with_reducible rfl
            go_simp
            refine wpAnyH_take (i := 23) (v := ?_) rfl (by kernel_rfl) (by kernel_rfl) (by kernel_rfl) (fun _ _ _ h => h) (Or.inl ⟨by rfl, ?_⟩) (by assumption) ?_
            rotate_left
            · intro w hSw; (try dsimp only at hSw); go_simp; try with_reducible rfl
            go_simp
            refine wpAnyH_take (i := 24) (v := ?_) rfl (by kernel_rfl) (by kernel_rfl) (by kernel_rfl) (fun _ _ _ h => h) (Or.inl ⟨by rfl, ?_⟩) (by assumption) ?_
            rotate_left
            · intro w hSw; (try dsimp only at hSw); go_simp; try with_reducible rfl
            go_simp
            refine wpAnyH_take (i := 25) (v := ?_) rfl (by kernel_rfl) (by kernel_rfl) (by kernel_rfl) (fun _ _ _ h => h) (Or.inl ⟨by rfl, ?_⟩) (by assumption) ?_
            rotate_left
            · intro w hSw; (try dsimp only at hSw); go_simp; try with_reducible rfl
            go_simp
            refine wpAnyH_take (i := 26) (v := ?_) rfl (by kernel_rfl) (by kernel_rfl) (by kernel_rfl) (fun _ _ _ h => h) (Or.inl ⟨by rfl, ?_⟩) (by assumption) ?_
            rotate_left
            · intro w hSw; (try dsimp only at hSw); go_simp; try with_reducible rfl
            go_simp
            refine wpAnyH_take (i := 27) (v := ?_) rfl (by kernel_rfl) (by kernel_rfl) (by kernel_rfl) (fun _ _ _ h => h) (Or.inl ⟨by rfl, ?_⟩) (by assumption) ?_
            rotate_left
            · intro w hSw; (try dsimp only at hSw); go_simp; try with_reducible rfl
            go_simp
            refine wpAnyH_take (i := 28) (v := ?_) rfl (by kernel_rfl) (by kernel_rfl) (by kernel_rfl) (fun _ _ _ h => h) (Or.inl ⟨by rfl, ?_⟩) (by assumption) ?_
            rotate_left
            · intro w hSw; (try dsimp only at hSw); go_simp; try with_reducible rfl
            go_simp
            refine wpAnyH_take (i := 29) (v := ?_) rfl (by kernel_rfl) (by kernel_rfl) (by kernel_rfl) (fun _ _ _ h => h) (Or.inl ⟨by rfl, ?_⟩) (by assumption) ?_
            rotate_left
            · intro w hSw; (try dsimp only at hSw); go_simp; try with_reducible rfl
            go_simp
            refine wpAnyH_take (i := 30) (v := ?_) rfl (by kernel_rfl) (by kernel_rfl) (by kernel_rfl) (fun _ _ _ h => h) (Or.inl ⟨by rfl, ?_⟩) (by assumption) ?_
            rotate_left
            · intro w hSw; (try dsimp only at hSw); go_simp; try with_reducible rfl
            go_simp
            refine wpAnyH_take (i := 31) (v := ?_) rfl (by kernel_rfl) (by kernel_rfl) (by kernel_rfl) (fun _ _ _ h => h) (Or.inl ⟨by rfl, ?_⟩) (by assumption) ?_
            rotate_left
            · intro w hSw; (try dsimp only at hSw); go_simp; try with_reducible rfl
            go_simp
            refine wpAnyH_take (i := 32) (v := ?_) rfl (by kernel_rfl) (by kernel_rfl) (by kernel_rfl) (fun _ _ _ h => h) (Or.inl ⟨by rfl, ?_⟩) (by assumption) ?_
            rotate_left
            · intro w hSw; (try dsimp only at hSw); go_simp; try with_reducible rfl
            go_simp
            refine wpAnyH_take (i := 33) (v := ?_) rfl (by kernel_rfl) (by kernel_rfl) (by kernel_rfl) (fun _ _ _ h => h) (Or.inl ⟨by rfl, ?_⟩) (by assumption) ?_
            rotate_left
            · intro w hSw; (try dsimp only at hSw); go_simp; try with_reducible rfl
            go_simp
            refine wpAnyH_take (i := 34) (v := ?_) rfl (by kernel_rfl) (by kernel_rfl) (by kernel_rfl) (fun _ _ _ h => h) (Or.inl ⟨by rfl, ?_⟩) (by assumption) ?_
            rotate_left
            · intro w hSw; (try dsimp only at hSw); go_simp; try with_reducible rfl
            go_simp
            refine wpAnyH_take (i := 35) (v := ?_) rfl (by kernel_rfl) (by kernel_rfl) (by kernel_rfl) (fun _ _ _ h => h) (Or.inl ⟨by rfl, ?_⟩) (by assumption) ?_
            rotate_left
            · intro w hSw; (try dsimp only at hSw); go_simp; try with_reducible rfl
            go_simp
            refine wpAnyH_take (i := 36) (v := ?_) rfl (by kernel_rfl) (by kernel_rfl) (by kernel_rfl) (fun _ _ _ h => h) (Or.inl ⟨by rfl, ?_⟩) (by assumption) ?_
            rotate_left
            · intro w hSw; (try dsimp only at hSw); go_simp; try with_reducible rfl
            go_simp
            refine wpAnyH_take (i := 37) (v := ?_) rfl (by kernel_rfl) (by kernel_rfl) (by kernel_rfl) (fun _ _ _ h => h) (Or.inl ⟨by rfl, ?_⟩) (by assumption) ?_
            rotate_left
            · intro w hSw; (try dsimp only at hSw); go_simp; try with_reducible rfl
            go_simp
            refine wpAnyH_take (i := 38) (v := ?_) rfl (by kernel_rfl) (by kernel_rfl) (by kernel_rfl) (fun _ _ _ h => h) (Or.inl ⟨by rfl, ?_⟩) (by assumption) ?_
            rotate_left
            · intro w hSw; (try dsimp only at hSw); go_simp; try with_reducible rfl
            go_simp
            refine wpAnyH_take (i := 39) (v := ?_) rfl (by kernel_rfl) (by kernel_rfl) (by kernel_rfl) (fun _ _ _ h => h) (Or.inl ⟨by rfl, ?_⟩) (by assumption) ?_
            rotate_left
            · intro w hSw; (try dsimp only at hSw); go_simp; try with_reducible rfl
            go_simp
            refine wpAnyH_take (i := 40) (v := ?_) rfl (by kernel_rfl) (by kernel_rfl) (by kernel_rfl) (fun _ _ _ h => h) (Or.inl ⟨by rfl, ?_⟩) (by assumption) ?_
            rotate_left
            · intro w hSw; (try dsimp only at hSw); go_simp; try with_reducible rfl
            go_simp
            refine wpAnyH_take (i := 41) (v := ?_) rfl (by kernel_rfl) (by kernel_rfl) (by kernel_rfl) (fun _ _ _ h => h) (Or.inl ⟨by rfl, ?_⟩) (by assumption) ?_
            rotate_left
            · intro w hSw; (try dsimp only at hSw); go_simp; try with_reducible rfl
            go_simp
            refine wpAnyH_take (i := 42) (v := ?_) rfl (by kernel_rfl) (by kernel_rfl) (by kernel_rfl) (fun _ _ _ h => h) (Or.inl ⟨by rfl, ?_⟩) (by assumption) ?_
            rotate_left
            · intro w hSw; (try dsimp only at hSw); go_simp; try with_reducible rfl
            go_simp
            refine wpAnyH_take (i := 43) (v := ?_) rfl (by kernel_rfl) (by kernel_rfl) (by kernel_rfl) (fun _ _ _ h => h) (Or.inl ⟨by rfl, ?_⟩) (by assumption) ?_
            rotate_left
            · intro w hSw; (try dsimp only at hSw); go_simp; try with_reducible rfl
            go_simp
            refine wpAnyH_take (i := 44) (v := ?_) rfl (by kernel_rfl) (by kernel_rfl) (by kernel_rfl) (fun _ _ _ h => h) (Or.inl ⟨by rfl, ?_⟩) (by assumption) ?_
            rotate_left
            · intro w hSw; (try dsimp only at hSw); go_simp; try with_reducible rfl
            go_simp
            refine wpAnyH_take (i := 45) (v := ?_) rfl (by kernel_rfl) (by kernel_rfl) (by kernel_rfl) (fun _ _ _ h => h) (Or.inl ⟨by rfl, ?_⟩) (by assumption) ?_
            rotate_left
            · intro w hSw; (try dsimp only at hSw); go_simp; try with_reducible rfl
            go_simp
            refine wpAnyH_done (by kernel_rfl) ?_ _

            have HJF : Hid (SuJ w _ p A1 al E z h _ (.slice A8 T c8) (j + 1)) := HJ8.out.below hHeld.1
            clear hHeld
            go_wp2_with fail
            go_roundw
            case rel => exact ⟨j + 1, z, h, y, _, HJN.out, rfl, rfl, rfl, rfl, by go_num, hzE, HB2, hbh, HJF⟩
            case measure =>
              have := HJN.out
              simp [intOf]; omega
        · cases b
          · have e : ov = 0 := by rw [← hov]; simp
            subst e
            have h0 : h = 0 := hbh rfl
            subst h0
            clear hov hco
            go_upto_region 33 with (fail)
            refine wp_region_held_drew (S := (fun W : World => Below w8.heap.size w8 W ∧ (convert 30 9 (.slice A8 T c8)).run Try.prog W = .ok (.string sx) W ∧ (convert 30 9 (.slice A1 T c1)).run Try.prog W = .ok (.string sx) W)) (by kernel_rfl) ?_ (fun hHeld => ?_)
            · exact HS33.out _ ((Below.refl _ _).drew)
            refine wpAnyH_take (i := 0) (v := ?_) rfl (by kernel_rfl) (by kernel_rfl) (by kernel_rfl) (fun _ _ _ h => h) (Or.inl ⟨by rfl, ?_⟩) (by assumption) ?_
            rotate_left
            · intro w hSw; (try dsimp only at hSw); go_simp; try with_reducible rfl
            go_simp
            refine wpAnyH_take (i := 1) (v := ?_) rfl (by kernel_rfl) (by kernel_rfl) (by kernel_rfl) (fun _ _ _ h => h) (Or.inl ⟨by rfl, ?_⟩) (by assumption) ?_
            rotate_left
            · intro w hSw; (try dsimp only at hSw); go_simp; try with_reducible rfl
            go_simp
            refine wpAnyH_take (i := 2) (v := ?_) rfl (by kernel_rfl) (by kernel_rfl) (by kernel_rfl) (fun _ _ _ h => h) (Or.inl ⟨by rfl, ?_⟩) (by assumption) ?_
            rotate_left
            · intro w hSw; (try dsimp only at hSw); go_simp; try with_reducible rfl
            go_simp
            refine wpAnyH_take (i := 3) (v := ?_) rfl (by kernel_rfl) (by kernel_rfl) (by kernel_rfl) (fun _ _ _ h => h) (Or.inl ⟨by rfl, ?_⟩) (by assumption) ?_
            rotate_left
            · intro w hSw; (try dsimp only at hSw); go_simp; try with_reducible rfl
            go_simp
            refine wpAnyH_take (i := 4) (v := ?_) rfl (by kernel_rfl) (by kernel_rfl) (by kernel_rfl) (fun _ _ _ h => h) (Or.inl ⟨by rfl, ?_⟩) (by assumption) ?_
            rotate_left
            · intro w hSw; (try dsimp only at hSw); go_simp; try with_reducible rfl
            go_simp
            refine wpAnyH_take (i := 5) (v := ?_) rfl (by kernel_rfl) (by kernel_rfl) (by kernel_rfl) (fun _ _ _ h => h) (Or.inl ⟨by rfl, ?_⟩) (by assumption) ?_
            rotate_left
            · intro w hSw; (try dsimp only at hSw); go_simp; try with_reducible rfl
            go_simp
            refine wpAnyH_take (i := 6) (v := ?_) rfl (by kernel_rfl) (by kernel_rfl) (by kernel_rfl) (fun _ _ _ h => h) (Or.inl ⟨by rfl, ?_⟩) (by assumption) ?_
            rotate_left
            · intro w hSw; (try dsimp only at hSw); go_simp; try with_reducible rfl
            go_simp
            refine wpAnyH_take (i := 7) (v := ?_) rfl (by kernel_rfl) (by kernel_rfl) (by kernel_rfl) (fun _ _ _ h => h) (Or.inl ⟨by rfl, ?_⟩) (by assumption) ?_
            rotate_left
            · intro w hSw; (try dsimp only at hSw); go_simp; try with_reducible rfl
            go_simp
            refine wpAnyH_take (i := 8) (v := ?_) rfl (by kernel_rfl) (by kernel_rfl) (by kernel_rfl) (fun _ _ _ h => h) (Or.inl ⟨by rfl, ?_⟩) (by assumption) ?_
            rotate_left
            · intro w hSw; (try dsimp only at hSw); go_simp; try with_reducible rfl
            go_simp
            refine wpAnyH_take (i := 9) (v := ?_) rfl (by kernel_rfl) (by kernel_rfl) (by kernel_rfl) (fun _ _ _ h => h) (Or.inl ⟨by rfl, ?_⟩) (by assumption) ?_
            rotate_left
            · intro w hSw; (try dsimp only at hSw); go_simp; try with_reducible rfl
            go_simp
            refine wpAnyH_take (i := 10) (v := ?_) rfl (by kernel_rfl) (by kernel_rfl) (by kernel_rfl) (fun _ _ _ h => h) (Or.inl ⟨by rfl, ?_⟩) (by assumption) ?_
            rotate_left
            · intro w hSw; (try dsimp only at hSw); go_simp; try with_reducible rfl
            go_simp
            refine wpAnyH_take (i := 11) (v := ?_) rfl (by kernel_rfl) (by kernel_rfl) (by kernel_rfl) (fun _ _ _ h => h) (Or.inl ⟨by rfl, ?_⟩) (by assumption) ?_
            rotate_left
            · intro w hSw; (try dsimp only at hSw); go_simp; try with_reducible rfl
            go_simp
            refine wpAnyH_take (i := 12) (v := ?_) rfl (by kernel_rfl) (by kernel_rfl) (by kernel_rfl) (fun _ _ _ h => h) (Or.inl ⟨by rfl, ?_⟩) (by assumption) ?_
            rotate_left
            · intro w hSw; (try dsimp only at hSw); go_simp; try with_reducible rfl
            go_simp
            refine wpAnyH_take (i := 13) (v := ?_) rfl (by kernel_rfl) (by kernel_rfl) (by kernel_rfl) (fun _ _ _ h => h) (Or.inl ⟨by rfl, ?_⟩) (by assumption) ?_
            rotate_left
            · intro w hSw; (try dsimp only at hSw); go_simp; try with_reducible rfl
            go_simp
            refine wpAnyH_take (i := 14) (v := ?_) rfl (by kernel_rfl) (by kernel_rfl) (by kernel_rfl) (fun _ _ _ h => h) (Or.inl ⟨by rfl, ?_⟩) (by assumption) ?_
            rotate_left
            · intro w hSw; (try dsimp only at hSw); go_simp; try with_reducible rfl
            go_simp
            refine wpAnyH_take (i := 15) (v := ?_) rfl (by kernel_rfl) (by kernel_rfl) (by kernel_rfl) (fun _ _ _ h => h) (Or.inl ⟨by rfl, ?_⟩) (by assumption) ?_
            rotate_left
            · intro w hSw; (try dsimp only at hSw); go_simp; try with_reducible rfl
            go_simp
            refine wpAnyH_take (i := 16) (v := undef) rfl (by kernel_rfl) (by kernel_rfl) (by kernel_rfl) (fun _ _ _ h => h) (Or.inr ⟨by rfl, rfl⟩) (by assumption) ?_
            go_simp
            refine wpAnyH_take (i := 17) (v := undef) rfl (by kernel_rfl) (by kernel_rfl) (by kernel_rfl) (fun _ _ _ h => h) (Or.inr ⟨by rfl, rfl⟩) (by assumption) ?_
            go_simp
            refine wpAnyH_take (i := 18) (v := undef) rfl (by kernel_rfl) (by kernel_rfl) (by kernel_rfl) (fun _ _ _ h => h) (Or.inr ⟨by rfl, rfl⟩) (by assumption) ?_
            go_simp
            refine wpAnyH_take (i := 19) (v := undef) rfl (by kernel_rfl) (by kernel_rfl) (by kernel_rfl) (fun _ _ _ h => h) (Or.inr ⟨by rfl, rfl⟩) (by assumption) ?_
            go_simp
            refine wpAnyH_take (i := 20) (v := ?_) rfl (by kernel_rfl) (by kernel_rfl) (by kernel_rfl) (fun _ _ _ h => h) (Or.inl ⟨by rfl, ?_⟩) (by assumption) ?_
            rotate_left
            · intro w hSw; (try dsimp only at hSw); go_simp; try with_reducible rfl
            go_simp
            refine wpAnyH_take (i := 21) (v := ?_) rfl (by kernel_rfl) (by kernel_rfl) (by kernel_rfl) (fun _ _ _ h => h) (Or.inl ⟨by rfl, ?_⟩) (by assumption) ?_
            rotate_left
            · intro w hSw; (try dsimp only at hSw); go_simp; try with_reducible rfl
            go_simp
            refine wpAnyH_take (i := 22) (v := ?_) rfl (by kernel_rfl) (by kernel_rfl) (by kernel_rfl) (fun _ _ _ h => h) (Or.inl ⟨by rfl, ?_⟩) (by assumption) ?_
            rotate_left
            · intro w hSw; (try dsimp only at hSw); go_simp; try with_reducible rfl
            go_simp
            refine wpAnyH_take (i := 23) (v := ?_) rfl (by kernel_rfl) (by kernel_rfl) (by kernel_rfl) (fun _ _ _ h => h) (Or.inl ⟨by rfl, ?_⟩) (by assumption) ?_
            rotate_left
            · intro w hSw; (try dsimp only at hSw); go_simp; try with_reducible rfl
            go_simp
            refine wpAnyH_take (i := 24) (v := ?_) rfl (by kernel_rfl) (by kernel_rfl) (by kernel_rfl) (fun _ _ _ h => h) (Or.inl ⟨by rfl, ?_⟩) (by assumption) ?_
            rotate_left
            · intro w hSw; (try dsimp only at hSw); go_simp; try with_reducible rfl
            go_simp
            refine wpAnyH_take (i := 25) (v := ?_) rfl (by kernel_rfl) (by kernel_rfl) (by kernel_rfl) (fun _ _ _ h => h) (Or.inl ⟨by rfl, ?_⟩) (by assumption) ?_
            rotate_left
            · intro w hSw; (try dsimp only at hSw); go_simp; try with_reducible rfl
            go_simp
            refine wpAnyH_take (i := 26) (v := ?_) rfl (by kernel_rfl) (by kernel_rfl) (by kernel_rfl) (fun _ _ _ h => h) (Or.inl ⟨by rfl, ?_⟩) (by assumption) ?_
            rotate_left
            · intro w hSw; (try dsimp only at hSw); go_simp; try with_reducible rfl
            go_simp
            refine wpAnyH_take (i := 27) (v := undef) rfl (by kernel_rfl) (by kernel_rfl) (by kernel_rfl) (fun _ _ _ h => h) (Or.inr ⟨by rfl, rfl⟩) (by assumption) ?_
            go_simp
            refine wpAnyH_take (i := 28) (v := undef) rfl (by kernel_rfl) (by kernel_rfl) (by kernel_rfl) (fun _ _ _ h => h) (Or.inr ⟨by rfl, rfl⟩) (by assumption) ?_
            go_simp
            refine wpAnyH_take (i := 29) (v := ?_) rfl (by kernel_rfl) (by kernel_rfl) (by kernel_rfl) (fun _ _ _ h => h) (Or.inl ⟨by rfl, ?_⟩) (by assumption) ?_
            rotate_left
            · intro w hSw; (try dsimp only at hSw); go_simp; try with_reducible rfl
            go_simp
            refine wpAnyH_take (i := 30) (v := ?_) rfl (by kernel_rfl) (by kernel_rfl) (by kernel_rfl) (fun _ _ _ h => h) (Or.inl ⟨by rfl, ?_⟩) (by assumption) ?_
            rotate_left
            · intro w hSw; (try dsimp only at hSw); go_simp; try with_reducible rfl
            go_simp
            refine wpAnyH_take (i := 31) (v := ?_) rfl (by kernel_rfl) (by kernel_rfl) (by kernel_rfl) (fun _ _ _ h => h) (Or.inl ⟨by rfl, ?_⟩) (by assumption) ?_
            rotate_left
            · intro w hSw; (try dsimp only at hSw); go_simp; try with_reducible rfl
            go_simp
            refine wpAnyH_take (i := 32) (v := ?_) rfl (by kernel_rfl) (by kernel_rfl) (by kernel_rfl) (fun _ _ _ h => h) (Or.inl ⟨by rfl, ?_⟩) (by assumption) ?_
            rotate_left
            · intro w hSw; (try dsimp only at hSw); go_simp; try with_reducible rfl
            go_simp
            refine wpAnyH_take (i := 33) (v := ?_) rfl (by kernel_rfl) (by kernel_rfl) (by kernel_rfl) (fun _ _ _ h => h) (Or.inl ⟨by rfl, ?_⟩) (by assumption) ?_
            rotate_left
            · intro w hSw; (try dsimp only at hSw); go_simp; try with_reducible rfl
            go_simp
            refine wpAnyH_take (i := 34) (v := ?_) rfl (by kernel_rfl) (by kernel_rfl) (by kernel_rfl) (fun _ _ _ h => h) (Or.inl ⟨by rfl, ?_⟩) (by assumption) ?_
            rotate_left
            · intro w hSw; (try dsimp only at hSw); go_simp; try with_reducible rfl
            go_simp
            refine wpAnyH_take (i := 35) (v := ?_) rfl (by kernel_rfl) (by kernel_rfl) (by kernel_rfl) (fun _ _ _ h => h) (Or.inl ⟨by rfl, ?_⟩) (by assumption) ?_
            rotate_left
            · intro w hSw; (try dsimp only at hSw); go_simp; try with_reducible rfl
            go_simp
            refine wpAnyH_take (i := 36) (v := ?_) rfl (by kernel_rfl) (by kernel_rfl) (by kernel_rfl) (fun _ _ _ h => h) (Or.inl ⟨by rfl, ?_⟩) (by assumption) ?_
            rotate_left
            · intro w hSw; (try dsimp only at hSw); go_simp; try with_reducible rfl
            go_simp
            refine wpAnyH_take (i := 37) (v := ?_) rfl (by kernel_rfl) (by kernel_rfl) (by kernel_rfl) (fun _ _ _ h => h) (Or.inl ⟨by rfl, ?_⟩) (by assumption) ?_
            rotate_left
            · intro w hSw; (try dsimp only at hSw); go_simp; try with_reducible rfl
            go_simp
            refine wpAnyH_take (i := 38) (v := undef) rfl (by kernel_rfl) (by kernel_rfl) (by kernel_rfl) (fun _ _ _ h => h) (Or.inr ⟨by rfl, rfl⟩) (by assumption) ?_
            go_simp
            refine wpAnyH_take (i := 39) (v := undef) rfl (by kernel_rfl) (by kernel_rfl) (by kernel_rfl) (fun _ _ _ h => h) (Or.inr ⟨by rfl, rfl⟩) (by assumption) ?_
            go_simp
            refine wpAnyH_take (i := 40) (v := undef) rfl (by kernel_rfl) (by kernel_rfl) (by kernel_rfl) (fun _ _ _ h => h) (Or.inr ⟨by rfl, rfl⟩) (by assumption) ?_
            go_simp
            refine wpAnyH_take (i := 41) (v := undef) rfl (by kernel_rfl) (by kernel_rfl) (by kernel_rfl) (fun _ _ _ h => h) (Or.inr ⟨by rfl, rfl⟩) (by assumption) ?_
            go_simp
            refine wpAnyH_take (i := 42) (v := undef) rfl (by kernel_rfl) (by kernel_rfl) (by kernel_rfl) (fun _ _ _ h => h) (Or.inr ⟨by rfl, rfl⟩) (by assumption) ?_
            go_simp
            refine wpAnyH_take (i := 43) (v := undef) rfl (by kernel_rfl) (by kernel_rfl) (by kernel_rfl) (fun _ _ _ h => h) (Or.inr ⟨by rfl, rfl⟩) (by assumption) ?_
            go_simp
            refine wpAnyH_take (i := 44) (v := ?_) rfl (by kernel_rfl) (by kernel_rfl) (by kernel_rfl) (fun _ _ _ h => h) (Or.inl ⟨by rfl, ?_⟩) (by assumption) ?_
            rotate_left
            · intro w hSw; (try dsimp only at hSw); go_simp; try with_reducible rfl
            go_simp
            refine wpAnyH_take (i := 45) (v := ?_) rfl (by kernel_rfl) (by kernel_rfl) (by kernel_rfl) (fun _ _ _ h => h) (Or.inl ⟨by rfl, ?_⟩) (by assumption) ?_
            rotate_left
            · intro w hSw; (try dsimp only at hSw); go_simp; try with_reducible rfl
            go_simp
            refine wpAnyH_done (by kernel_rfl) ?_ _

            have HJF : Hid (SuJ w _ p A1 al E z 0 _ (.slice A8 T c8) (j + 1)) := HJ8.out.below hHeld.1
            clear hHeld
            go_wp2_with fail
            go_roundw
            case rel => exact ⟨j + 1, z, 0, y, _, HJN.out, rfl, rfl, rfl, rfl, by go_num, hzE, HB2, hbh, HJF⟩
            case measure =>
              have := HJN.out
              simp [intOf]; omega
          · have e : ov = 0 := by rw [← hov]; simp; omega
            subst e
            have hTm : (T : Int) ≤ (mz : Int) := by have := (hco rfl).2; omega
            clear hov hco
            go_upto_region 33 with (fail)
            refine wp_region_held_drew (S := (fun W : World => Below w8.heap.size w8 W ∧ (convert 30 9 (.slice A8 T c8)).run Try.prog W = .ok (.string sx) W ∧ (convert 30 9 (.slice A1 T c1)).run Try.prog W = .ok (.string sx) W)) (by kernel_rfl) ?_ (fun hHeld => ?_)
            · exact HS33.out _ ((Below.refl _ _).drew)
            refine wpAnyH_take (i := 0) (v := ?_) rfl (by kernel_rfl) (by kernel_rfl) (by kernel_rfl) (fun _ _ _ h => h) (Or.inl ⟨by rfl, ?_⟩) (by assumption) ?_
            rotate_left
            · intro w hSw; (try dsimp only at hSw); go_simp; try with_reducible rfl
            go_simp
            refine wpAnyH_take (i := 1) (v := ?_) rfl (by kernel_rfl) (by kernel_rfl) (by kernel_rfl) (fun _ _ _ h => h) (Or.inl ⟨by rfl, ?_⟩) (by assumption) ?_
            rotate_left
            · intro w hSw; (try dsimp only at hSw); go_simp; try with_reducible rfl
            go_simp
            refine wpAnyH_take (i := 2) (v := ?_) rfl (by kernel_rfl) (by kernel_rfl) (by kernel_rfl) (fun _ _ _ h => h) (Or.inl ⟨by rfl, ?_⟩) (by assumption) ?_
            rotate_left
            · intro w hSw; (try dsimp only at hSw); go_simp; try with_reducible rfl
            go_simp
            refine wpAnyH_take (i := 3) (v := ?_) rfl (by kernel_rfl) (by kernel_rfl) (by kernel_rfl) (fun _ _ _ h => h) (Or.inl ⟨by rfl, ?_⟩) (by assumption) ?_
            rotate_left
            · intro w hSw; (try dsimp only at hSw); go_simp; try with_reducible rfl
            go_simp
            refine wpAnyH_take (i := 4) (v := ?_) rfl (by kernel_rfl) (by kernel_rfl) (by kernel_rfl) (fun _ _ _ h => h) (Or.inl ⟨by rfl, ?_⟩) (by assumption) ?_
            rotate_left
            · intro w hSw; (try dsimp only at hSw); go_simp; try with_reducible rfl
            go_simp
            refine wpAnyH_take (i := 5) (v := ?_) rfl (by kernel_rfl) (by kernel_rfl) (by kernel_rfl) (fun _ _ _ h => h) (Or.inl ⟨by rfl, ?_⟩) (by assumption) ?_
            rotate_left
            · intro w hSw; (try dsimp only at hSw); go_simp; try with_reducible rfl
            go_simp
            refine wpAnyH_take (i := 6) (v := ?_) rfl (by kernel_rfl) (by kernel_rfl) (by kernel_rfl) (fun _ _ _ h => h) (Or.inl ⟨by rfl, ?_⟩) (by assumption) ?_
            rotate_left
            · intro w hSw; (try dsimp only at hSw); go_simp; try with_reducible rfl
            go_simp
            refine wpAnyH_take (i := 7) (v := ?_) rfl (by kernel_rfl) (by kernel_rfl) (by kernel_rfl) (fun _ _ _ h => h) (Or.inl ⟨by rfl, ?_⟩) (by assumption) ?_
            rotate_left
            · intro w hSw; (try dsimp only at hSw); go_simp; try with_reducible rfl
            go_simp
            refine wpAnyH_take (i := 8) (v := ?_) rfl (by kernel_rfl) (by kernel_rfl) (by kernel_rfl) (fun _ _ _ h => h) (Or.inl ⟨by rfl, ?_⟩) (by assumption) ?_
            rotate_left
            · intro w hSw; (try dsimp only at hSw); go_simp; try with_reducible rfl
            go_simp
            refine wpAnyH_take (i := 9) (v := ?_) rfl (by kernel_rfl) (by kernel_rfl) (by kernel_rfl) (fun _ _ _ h => h) (Or.inl ⟨by rfl, ?_⟩) (by assumption) ?_
            rotate_left
            · intro w hSw; (try dsimp only at hSw); go_simp; try with_reducible rfl
            go_simp
            refine wpAnyH_take (i := 10) (v := ?_) rfl (by kernel_rfl) (by kernel_rfl) (by kernel_rfl) (fun _ _ _ h => h) (Or.inl ⟨by rfl, ?_⟩) (by assumption) ?_
            rotate_left
            · intro w hSw; (try dsimp only at hSw); go_simp; try with_reducible rfl
            go_simp
            refine wpAnyH_take (i := 11) (v := ?_) rfl (by kernel_rfl) (by kernel_rfl) (by kernel_rfl) (fun _ _ _ h => h) (Or.inl ⟨by rfl, ?_⟩) (by assumption) ?_
            rotate_left
            · intro w hSw; (try dsimp only at hSw); go_simp; try with_reducible rfl
            go_simp
            refine wpAnyH_take (i := 12) (v := ?_) rfl (by kernel_rfl) (by kernel_rfl) (by kernel_rfl) (fun _ _ _ h => h) (Or.inl ⟨by rfl, ?_⟩) (by assumption) ?_
            rotate_left
            · intro w hSw; (try dsimp only at hSw); go_simp; try with_reducible rfl
            go_simp
            refine wpAnyH_take (i := 13) (v := ?_) rfl (by kernel_rfl) (by kernel_rfl) (by kernel_rfl) (fun _ _ _ h => h) (Or.inl ⟨by rfl, ?_⟩) (by assumption) ?_
            rotate_left
            · intro w hSw; (try dsimp only at hSw); go_simp; try with_reducible rfl
            go_simp
            refine wpAnyH_take (i := 14) (v := ?_) rfl (by kernel_rfl) (by kernel_rfl) (by kernel_rfl) (fun _ _ _ h => h) (Or.inl ⟨by rfl, ?_⟩) (by assumption) ?_
            rotate_left
            · intro w hSw; (try dsimp only at hSw); go_simp; try with_reducible rfl
            go_simp
            refine wpAnyH_take (i := 15) (v := ?_) rfl (by kernel_rfl) (by kernel_rfl) (by kernel_rfl) (fun _ _ _ h => h) (Or.inl ⟨by rfl, ?_⟩) (by assumption) ?_
            rotate_left
            · intro w hSw; (try dsimp only at hSw); go_simp; try with_reducible rfl
            go_simp
            refine wpAnyH_take (i := 16) (v := ?_) rfl (by kernel_rfl) (by kernel_rfl) (by kernel_rfl) (fun _ _ _ h => h) (Or.inl ⟨by rfl, ?_⟩) (by assumption) ?_
            rotate_left
            · intro w hSw; (try dsimp only at hSw); go_simp; try with_reducible rfl
            go_simp
            refine wpAnyH_take (i := 17) (v := ?_) rfl (by kernel_rfl) (by kernel_rfl) (by kernel_rfl) (fun _ _ _ h => h) (Or.inl ⟨by rfl, ?_⟩) (by assumption) ?_
            rotate_left
            · intro w hSw; (try dsimp only at hSw); go_simp; try with_reducible rfl
            go_simp
            refine wpAnyH_take (i := 18) (v := ?_) rfl (by kernel_rfl) (by kernel_rfl) (by kernel_rfl) (fun _ _ _ h => h) (Or.inl ⟨by rfl, ?_⟩) (by assumption) ?_
            rotate_left
            · intro w hSw; (try dsimp only at hSw); go_simp; try with_reducible rfl
            go_simp
            refine wpAnyH_take (i := 19) (v := ?_) rfl (by kernel_rfl) (by kernel_rfl) (by kernel_rfl) (fun _ _ _ h => h) (Or.inl ⟨by rfl, ?_⟩) (by assumption) ?_
            rotate_left
            · intro w hSw; (try dsimp only at hSw); go_simp; try with_reducible rfl
            go_simp
            refine wpAnyH_take (i := 20) (v := ?_) rfl (by kernel_rfl) (by kernel_rfl) (by kernel_rfl) (fun _ _ _ h => h) (Or.inl ⟨by rfl, ?_⟩) (by assumption) ?_
            rotate_left
            · intro w hSw; (try dsimp only at hSw); go_simp; try with_reducible rfl
            go_simp
            refine wpAnyH_take (i := 21) (v := ?_) rfl (by kernel_rfl) (by kernel_rfl) (by kernel_rfl) (fun _ _ _ h => h) (Or.inl ⟨by rfl, ?_⟩) (by assumption) ?_
            rotate_left
            · intro w hSw; (try dsimp only at hSw); go_simp; try with_reducible rfl
            go_simp
            refine wpAnyH_take (i := 22) (v := ?_) rfl (by kernel_rfl) (by kernel_rfl) (by kernel_rfl) (fun _ _ _ h => h) (Or.inl ⟨by rfl, ?_⟩) (by assumption) ?_
            rotate_left
            · intro w hSw; (try dsimp only at hSw); go_simp; try with_reducible rfl
            go_simp
            refine wpAnyH_take (i := 23) (v := ?_) rfl (by kernel_rfl) (by kernel_rfl) (by kernel_rfl) (fun _ _ _ h => h) (Or.inl ⟨by rfl, ?_⟩) (by assumption) ?_
            rotate_left
            · intro w hSw; (try dsimp only at hSw); go_simp; try with_reducible rfl
            go_simp
            refine wpAnyH_take (i := 24) (v := ?_) rfl (by kernel_rfl) (by kernel_rfl) (by kernel_rfl) (fun _ _ _ h => h) (Or.inl ⟨by rfl, ?_⟩) (by assumption) ?_
            rotate_left
            · intro w hSw; (try dsimp only at hSw); go_simp; try with_reducible rfl
            go_simp
            refine wpAnyH_take (i := 25) (v := ?_) rfl (by kernel_rfl) (by kernel_rfl) (by kernel_rfl) (fun _ _ _ h => h) (Or.inl ⟨by rfl, ?_⟩) (by assumption) ?_
            rotate_left
            · intro w hSw; (try dsimp only at hSw); go_simp; try with_reducible rfl
            go_simp
            refine wpAnyH_take (i := 26) (v := ?_) rfl (by kernel_rfl) (by kernel_rfl) (by kernel_rfl) (fun _ _ _ h => h) (Or.inl ⟨by rfl, ?_⟩) (by assumption) ?_
            rotate_left
            · intro w hSw; (try dsimp only at hSw); go_simp; try with_reducible rfl
            go_simp
            refine wpAnyH_take (i := 27) (v := undef) rfl (by kernel_rfl) (by kernel_rfl) (by kernel_rfl) (fun _ _ _ h => h) (Or.inr ⟨by rfl, rfl⟩) (by assumption) ?_
            go_simp
            refine wpAnyH_take (i := 28) (v := undef) rfl (by kernel_rfl) (by kernel_rfl) (by kernel_rfl) (fun _ _ _ h => h) (Or.inr ⟨by rfl, rfl⟩) (by assumption) ?_
            go_simp
            refine wpAnyH_take (i := 29) (v := ?_) rfl (by kernel_rfl) (by kernel_rfl) (by kernel_rfl) (fun _ _ _ h => h) (Or.inl ⟨by rfl, ?_⟩) (by assumption) ?_
            rotate_left
            · intro w hSw; (try dsimp only at hSw); go_simp; try with_reducible rfl
            go_simp
            refine wpAnyH_take (i := 30) (v := ?_) rfl (by kernel_rfl) (by kernel_rfl) (by kernel_rfl) (fun _ _ _ h => h) (Or.inl ⟨by rfl, ?_⟩) (by assumption) ?_
            rotate_left
            · intro w hSw; (try dsimp only at hSw); go_simp; try with_reducible rfl
            go_simp
            refine wpAnyH_take (i := 31) (v := ?_) rfl (by kernel_rfl) (by kernel_rfl) (by kernel_rfl) (fun _ _ _ h => h) (Or.inl ⟨by rfl, ?_⟩) (by assumption) ?_
            rotate_left
            · intro w hSw; (try dsimp only at hSw); go_simp; try with_reducible rfl
            go_simp
            refine wpAnyH_take (i := 32) (v := ?_) rfl (by kernel_rfl) (by kernel_rfl) (by kernel_rfl) (fun _ _ _ h => h) (Or.inl ⟨by rfl, ?_⟩) (by assumption) ?_
            rotate_left
            · intro w hSw; (try dsimp only at hSw); go_simp; try with_reducible rfl
            go_simp
            refine wpAnyH_take (i := 33) (v := ?_) rfl (by kernel_rfl) (by kernel_rfl) (by kernel_rfl) (fun _ _ _ h => h) (Or.inl ⟨by rfl, ?_⟩) (by assumption) ?_
            rotate_left
            · intro w hSw; (try dsimp only at hSw); go_simp; try with_reducible rfl
            go_simp
            refine wpAnyH_take (i := 34) (v := ?_) rfl (by kernel_rfl) (by kernel_rfl) (by kernel_rfl) (fun _ _ _ h => h) (Or.inl ⟨by rfl, ?_⟩) (by assumption) ?_
            rotate_left
            · intro w hSw; (try dsimp only at hSw); go_simp; try with_reducible rfl
            go_simp
            refine wpAnyH_take (i := 35) (v := ?_) rfl (by kernel_rfl) (by kernel_rfl) (by kernel_rfl) (fun _ _ _ h => h) (Or.inl ⟨by rfl, ?_⟩) (by assumption) ?_
            rotate_left
            · intro w hSw; (try dsimp only at hSw); go_simp; try with_reducible rfl
            go_simp
            refine wpAnyH_take (i := 36) (v := ?_) rfl (by kernel_rfl) (by kernel_rfl) (by kernel_rfl) (fun _ _ _ h => h) (Or.inl ⟨by rfl, ?_⟩) (by assumption) ?_
            rotate_left
            · intro w hSw; (try dsimp only at hSw); go_simp; try with_reducible rfl
            go_simp
            refine wpAnyH_take (i := 37) (v := ?_) rfl (by kernel_rfl) (by kernel_rfl) (by kernel_rfl) (fun _ _ _ h => h) (Or.inl ⟨by rfl, ?_⟩) (by assumption) ?_
            rotate_left
            · intro w hSw; (try dsimp only at hSw); go_simp; try with_reducible rfl
            go_simp
            refine wpAnyH_take (i := 38) (v := ?_) rfl (by kernel_rfl) (by kernel_rfl) (by kernel_rfl) (fun _ _ _ h => h) (Or.inl ⟨by rfl, ?_⟩) (by assumption) ?_
            rotate_left
            · intro w hSw; (try dsimp only at hSw); go_simp; try with_reducible rfl
            go_simp
            refine wpAnyH_take (i := 39) (v := ?_) rfl (by kernel_rfl) (by kernel_rfl) (by kernel_rfl) (fun _ _ _ h => h) (Or.inl ⟨by rfl, ?_⟩) (by assumption) ?_
            rotate_left
            · intro w hSw; (try dsimp only at hSw); go_simp; try with_reducible rfl
            go_simp
            refine wpAnyH_take (i := 40) (v := ?_) rfl (by kernel_rfl) (by kernel_rfl) (by kernel_rfl) (fun _ _ _ h => h) (Or.inl ⟨by rfl, ?_⟩) (by assumption) ?_
            rotate_left
            · intro w hSw; (try dsimp only at hSw); go_simp; try with_reducible rfl
            go_simp
            refine wpAnyH_take (i := 41) (v := ?_) rfl (by kernel_rfl) (by kernel_rfl) (by kernel_rfl) (fun _ _ _ h => h) (Or.inl ⟨by rfl, ?_⟩) (by assumption) ?_
            rotate_left
            · intro w hSw; (try dsimp only at hSw); go_simp; try with_reducible rfl
            go_simp
            refine wpAnyH_take (i := 42) (v := ?_) rfl (by kernel_rfl) (by kernel_rfl) (by kernel_rfl) (fun _ _ _ h => h) (Or.inl ⟨by rfl, ?_⟩) (by assumption) ?_
            rotate_left
            · intro w hSw; (try dsimp only at hSw); go_simp; try with_reducible rfl
            go_simp
            refine wpAnyH_take (i := 43) (v := ?_) rfl (by kernel_rfl) (by kernel_rfl) (by kernel_rfl) (fun _ _ _ h => h) (Or.inl ⟨by rfl, ?_⟩) (by assumption) ?_
            rotate_left
            · intro w hSw; (try dsimp only at hSw); go_simp; try with_reducible rfl
            go_simp
            refine wpAnyH_take (i := 44) (v := ?_) rfl (by kernel_rfl) (by kernel_rfl) (by kernel_rfl) (fun _ _ _ h => h) (Or.inl ⟨by rfl, ?_⟩) (by assumption) ?_
            rotate_left
            · intro w hSw; (try dsimp only at hSw); go_simp; try with_reducible rfl
            go_simp
            refine wpAnyH_take (i := 45) (v := ?_) rfl (by kernel_rfl) (by kernel_rfl) (by kernel_rfl) (fun _ _ _ h => h) (Or.inl ⟨by rfl, ?_⟩) (by assumption) ?_
            rotate_left
            · intro w hSw; (try dsimp only at hSw); go_simp; try with_reducible rfl
            go_simp
            refine wpAnyH_done (by kernel_rfl) ?_ _

            have HJF : Hid (SuJ w _ p A1 al E z h _ (.slice A8 T c8) (j + 1)) := HJ8.out.below hHeld.1
            clear hHeld
            go_wp2_with fail
            go_roundw
            case rel => exact ⟨j + 1, z, h, y, _, HJN.out, rfl, rfl, rfl, rfl, by go_num, hzE, HB2, hbh, HJF⟩
            case measure =>
              have := HJN.out
              simp [intOf]; omega
end Go.Proofs.Ytcglhoochmfmiaa.Re
