/- RecvOnce: the walk (printed by gen/recvn.py). Conditions: the bytes and the calls are arguments'. -/
import Derived.Test.YtcglhoochmfmiaaJZt
import Derived.Test.YtcglhoochmfmiaaJH1
set_option linter.unusedSimpArgs false
set_option linter.unusedVariables false

namespace Go.Proofs.Ytcglhoochmfmiaa.Re
open Go Go.RowKit Go.Proofs.Ytcglhoochmfmiaa Go.Proofs.Ytcglhoochmfmiaa.Sp Go.Proofs.Ytcglhoochmfmiaa.Se Go.Maps Go.Proofs.Ytcglhoochmfmiaa.Rw

def lenV : Value → Nat | .slice _ n _ => n | _ => 0
/-- What RecvOnce holds at each piece. -/
def OnJ (w wr : World) (p : Nat) (A1 : Option Addr) (al : List Nat) (g : Nat) (v : Value) (t : Nat) (fr : Int) (had : List Bool) (j : Nat) : Prop := ∃ F s n, SO w wr p n F s A1 al v t g had ∧ OnP al t (fun x => had.getD x false) s ∧ fr = s.top ∧ had.length = al.length + 1 ∧ n ≤ 400 * j
theorem OnJ.below {w wr w' : World} {p : Nat} {A1 : Option Addr} {al : List Nat} {g : Nat} {v : Value} {t : Nat} {fr : Int} {had : List Bool} {j : Nat} (hj : OnJ w wr p A1 al g v t fr had j) (hb : Below wr.heap.size wr w') : OnJ w w' p A1 al g v t fr had j := by
  obtain ⟨F, s, n, h1, h2, h3, h4, h5⟩ := hj
  exact ⟨F, s, n, h1.below hb, h2, h3, h4, h5⟩

set_option maxRecDepth 100000 in
set_option maxHeartbeats 16000000 in
theorem once_walk (A0 : Option Addr) (c0 : Nat) (bs : List Nat) (A : Option Addr) (N cap : Nat) (rs : List Rw.Rc) (a2 : Int) (w : World) (hb : IsBytes w A0 c0 bs) (hr : Rw.CallsIn w A cap N rs) (hN : N * 64 ≤ 140737488351232) :
    Calls Try.prog 6 #[.slice A0 bs.length c0, .slice A N cap, .int .i64 a2] w fun e w' => e = .returned (.bool true) ∧ Below w.heap.size w w' := by
  have HFEW := Lib.hid (few_any bs w.heap.size A0 c0 400 w hb.rd (Nat.le_refl _) hb.cap (by have := hb.reach; omega))
  have HLT := Lib.hid hb.lt
  have HKN := Lib.hid known_any
  have HRS := Lib.hid hr
  have hnI : (N : Int) ≤ 2199023255552 := by omega
  have hncI : (N : Int) ≤ (cap : Int) := by have := hr.le; omega
  have hNN : N ≤ 2199023255552 := by omega
  have hN8 : N * 64 ≤ 140737488351232 := hN
  clear hb hr hN hN8
  go_enter Try.func6, Try.ntmps6
  go_wp2_with fail
  refine HFEW.out.mono ?_
  rintro e w1 ⟨v1, rfl, ho1, hb1⟩
  obtain ⟨al, hal⟩ : ∃ l, bs.take 400 = l := ⟨_, rfl⟩
  rw [hal] at ho1
  obtain ⟨A1, c1, e1, hcc1, _, _, hr1⟩ := own_form ho1
  subst e1
  rw [Nat.mul_one] at hr1
  have hL : al.length ≤ 400 := by rw [← hal, List.length_take]; omega
  have HAL : Hid (∀ x ∈ al, x < 256) := fun x hx => by rw [← hal] at hx; exact HLT.out x (List.mem_of_mem_take hx)
  have HR1 := Lib.hid hr1
  have HB1 := Lib.hid hb1
  clear ho1 hb1 hr1 hal HFEW HLT
  have HNEW := Lib.hid (new_hr w1 7)
  go_wp2_with fail
  refine HNEW.out.mono ?_
  rintro e w2 ⟨p, F2, rfl, hh2, hF2⟩
  have HH2 : Hid (HR w w2 p 0 F2 newR) := ⟨hh2.st, fun k hk => Nat.le_trans HB1.out.size (hh2.lo k hk), HB1.out.trans (hh2.low.mono HB1.out.size)⟩
  have HRO2 : Hid (RowO w2 F2 A1 al) := ⟨(HR1.out.below hh2.low (Nat.le_refl _)).more hh2.low.size, fun h0 a ea hm => by
    obtain ⟨b, o, e, hlt, _⟩ := HR1.out.2 h0
    rw [ea] at e; cases e
    exact absurd hlt (by have : w1.heap.size ≤ b := hF2 _ hm; omega)⟩
  clear hh2 hF2 HNEW HR1 HB1
  go_wp2_with fail
  refine (HKN.out w2).mono ?_
  rintro e w3 ⟨rfl, hb3⟩
  have HH3 := Lib.hid (HH2.out.below hb3)
  have HRO3 := Lib.hid (HRO2.out.go (Goes.below F2 hb3))
  clear hb3 HH2 HRO2 HKN
  obtain ⟨L, hLe⟩ : ∃ L, al.length = L := ⟨_, rfl⟩
  have hwL : IntKind.i64.wrap ((L : Int) + 1) = (L : Int) + 1 := IntWalk.i64_in _ (by omega)
  have HLE := Lib.hid hLe
  rw [hLe] at hcc1 hL ⊢
  clear hLe
  obtain ⟨i0, hi, hz0, hz1, hz2⟩ := info_parts infoBo
  have hmk := fun W => run_make (P := Try.prog) W 86 4 i0 (.bool false) Try.underlying86 hi hz0 .i64 .i64 ((L : Int) + 1) ((L : Int) + 1) (by omega) (by omega) (by rw [hz2]; omega) (by omega)
  have hLt : ((L : Int) + 1).toNat = L + 1 := by omega
  simp only [hz1, Nat.mul_one, hLt] at hmk
  have hml : madeCells (Value.bool false).cells (L + 1) = ((List.replicate (L + 1) false).map Value.bool).toArray := by
    refine Array.ext (by simp [madeCells, Value.cells]) fun k h1 h2 => ?_
    simp [madeCells, Value.cells, Nat.mod_one]
  obtain ⟨zc, hzc⟩ : ∃ x, madeCells (Value.bool false).cells (L + 1) = x := ⟨_, rfl⟩
  rw [hzc] at hmk hml
  have HJ3 : Hid (OnJ w (w3.alloc (.cells zc 4)) p A1 al w3.heap.size (.slice none 0 0) 0 0 (List.replicate (L + 1) false) 0) := by
    have hb := (Below.refl w3.heap.size w3).alloc (Nat.le_refl _) (.cells zc 4)
    have hsi : SI w w3 p 0 F2 newR A1 al (.slice none 0 0) 0 := ⟨HH3.out, HRO3.out, (fun _ a _ hm => by simp [fp] at hm), own_nil _ _ _ _, (fun k hk => by simp [fp] at hk)⟩
    refine ⟨F2, newR, 0, ⟨hsi.below hb, ?_, fun hm => ?_, by simp [fp], fun h0 a ea e => ?_, HH3.out.low.size⟩, (OnP.new al).congr fun x hx => (by show false = (List.replicate (L + 1) false).getD x false; rw [List.getD_eq_getElem?_getD, List.getElem?_replicate]; split <;> rfl), rfl, by simp [HLE.out], Nat.zero_le _⟩
    · show (w3.alloc (.cells zc 4)).heap[w3.heap.size]? = _
      rw [← hml]
      exact heap_alloc_new w3 _
    · exact Nat.lt_irrefl _ (HH3.out.lt _ hm)
    · obtain ⟨b, o, e2, hb2, _⟩ := HRO3.out.1.2 h0
      rw [ea] at e2
      cases e2
      exact Nat.lt_irrefl _ (e ▸ hb2)
  clear HH3 HRO3 hzc hml hi hz0 hz1 hz2 hLt
  go_upto_region 7 with (fail)
  obtain ⟨w4, hw4⟩ : ∃ x, w3.alloc (.cells zc 4) = x := ⟨_, rfl⟩
  obtain ⟨g, hg⟩ : ∃ x, w3.heap.size = x := ⟨_, rfl⟩
  rw [hw4, hg] at HJ3 ⊢
  clear hw4 hg hmk
  go_wp2_with fail
  go_loopw [9, 11, 12, 13] (fun v9 v11 v12 i wr => ∃ (j t : Nat) (fr ov : Int) (had : List Bool), j ≤ N + 1 ∧ (∃ Av cv, v9 = .slice Av t cv) ∧ v11 = .int .i64 fr ∧ v12 = .int .i64 ov ∧ i = .int .i64 (j : Int) ∧ t ≤ L ∧ Hid (0 < j → ov = if t = L then 1 else 0) ∧ Hid (j = N + 1 → ∀ x, x < L → had.getD x false = true) ∧ Hid (OnJ w wr p A1 al g v9 t fr had j)) (fun _ _ _ i _ => N + 1 - (intOf i).toNat)
  case atStart => exact ⟨0, 0, 0, 0, _, Nat.zero_le _, ⟨none, 0, rfl⟩, rfl, rfl, rfl, Nat.zero_le _, (fun h => absurd h (by omega)), (fun h => absurd h (by omega)), HJ3.out⟩
  case round =>
    clear HJ3
    obtain ⟨j, t, fr, ov, had, hj, ⟨Av, cv, rfl⟩, rfl, rfl, rfl, htL, HOV, HALL, HK⟩ := hrel
    obtain ⟨F, s, n0, hI, hS, hfr, hhl, hn0⟩ := HK.out
    have HI := Lib.hid hI
    have HS := Lib.hid hS
    have HFR := Lib.hid hfr
    have HHL := Lib.hid hhl
    have HN0 := Lib.hid hn0
    clear hI hS hfr hhl hn0 HK
    by_cases hjN : j ≤ N
    case neg =>
      have hjnI : ¬ (j : Int) ≤ (N : Int) := by omega
      obtain rfl : j = N + 1 := by omega
      have HAL2 : Hid (∀ x, x < al.length → (fun x => had.getD x false) x = true) := fun x hx => HALL.out rfl x (by rw [← HLE.out]; exact hx)
      have htop : s.top = (L : Int) := by
        rcases Nat.eq_zero_or_pos L with hz | hz
        · have h1 := HS.out.top; have h2 := HS.out.ri.top; have := HLE.out; omega
        · have := HS.out.en (HS.out.fin (by have := HLE.out; omega) (HAL2.out _ (by have := HLE.out; omega)))
          rw [HLE.out] at this; exact this
      have hfr2 := HFR.out
      rw [htop] at hfr2
      subst hfr2
      have HEN : Hid (0 < L → s.en = true) := fun hz => HS.out.fin (by have := HLE.out; omega) (HAL2.out _ (by have := HLE.out; omega))
      have HJ : Hid (∃ F s, SO w wr p n0 F s A1 al (.slice Av t cv) t g had ∧ OnP al t (fun x => had.getD x false) s ∧ s.top = (L : Int) ∧ (0 < L → s.en = true)) := ⟨F, s, HI.out, HS.out, htop, HEN.out⟩
      have HOV2 : Hid (ov = if t = L then 1 else 0) := HOV.out (by omega)
      clear HI HS HFR HEN htop HOV HALL
      go_wp2_with fail
      go_loopw [9, 12] (fun v9 v12 wr => ∃ (t : Nat) (ov : Int), (∃ Av cv, v9 = .slice Av t cv) ∧ v12 = .int .i64 ov ∧ t ≤ L ∧ Hid (ov = if t = L then 1 else 0) ∧ Hid (∃ F s, SO w wr p n0 F s A1 al v9 t g had ∧ OnP al t (fun x => had.getD x false) s ∧ s.top = (L : Int) ∧ (0 < L → s.en = true))) (fun v9 _ _ => L - lenV v9)
      case atStart => exact ⟨t, ov, ⟨Av, cv, rfl⟩, rfl, htL, HOV2.out, HJ.out⟩
      case round =>
        clear HJ HOV2 htL
        obtain ⟨t, ov, ⟨Av, cv, rfl⟩, rfl, htL, HOV, HK⟩ := hrel
        obtain ⟨F, s, hI, hS, htp, hen⟩ := HK.out
        have HI := Lib.hid hI
        have HS := Lib.hid hS
        have HT := Lib.hid (And.intro htp hen)
        clear hI hS htp hen HK
        by_cases htl : t < L
        case neg =>
          have htlI : ¬ (t : Int) < (L : Int) := by omega
          obtain rfl : t = L := by omega
          have hov := HOV.out
          rw [if_pos rfl] at hov
          subst hov
          obtain ⟨_, _, hev, hcvc, _⟩ := own_form HI.out.si.got
          simp only [Value.slice.injEq] at hev
          have htc : (t : Int) ≤ (c1 : Int) := by omega
          have htv : (t : Int) ≤ (cv : Int) := by have := hev.2.2; omega
          clear hev hcvc
          have HTP : Hid (0 ≤ s.top ∧ s.top ≤ 4611686018427387903) := by have := HT.out.1; show 0 ≤ _ ∧ _; omega
          have HTK : Hid (0 ≤ s.tk ∧ s.tk ≤ 4611686018427387903) := by have := HS.out.tk; show 0 ≤ _ ∧ _; omega
          have HRE : Hid (s.top - s.tk = 0) := by show _ = _; rw [HT.out.1, HS.out.tk]; omega
          obtain ⟨sx, hsx⟩ : ∃ x, strOf (al.take t) = x := ⟨_, rfl⟩
          have hcv1 := HI.out.si.gotStr
          have hcv2 := HI.out.si.allStr t (by have := HLE.out; omega) c1
          rw [hsx] at hcv1 hcv2
          have HC := Lib.hid (rest_hr HI.out.si.hr HTP.out HTK.out)
          rw [HRE.out] at HC
          have HLW := Lib.hid HI.out.si.hr.low
          clear hsx HI HS HT
          go_wp2_with fail
          refine HC.out.mono ?_
          rintro e w9 ⟨rfl, q9, hw9⟩
          have HBF : Hid (Below w.heap.size w w9) := by rw [hw9]; exact ⟨HLW.out.os, HLW.out.tape, HLW.out.output, HLW.out.size, HLW.out.block⟩
          clear hw9
          go_wp2_with fail
          go_ret
          exact ⟨rfl, HBF.out⟩
        case pos =>
          have htlI : (t : Int) < (L : Int) := by omega
          obtain ⟨pk, hpk, hpk0, hpk9⟩ : ∃ q : Int, a2 % 90 = q ∧ 0 ≤ q ∧ q < 90 := ⟨_, rfl, by omega, by omega⟩
          have HPK := Lib.hid (fun W => pick_any a2 90 W (by decide) (by decide))
          rw [hpk] at HPK
          have hw1 : IntKind.i64.wrap (1 + pk) = 1 + pk := IntWalk.i64_in _ (by omega)
          obtain ⟨mo, hmo⟩ : ∃ q, 1 + pk = q := ⟨_, rfl⟩
          rw [hmo] at hw1
          have HMO : Hid (1 ≤ mo ∧ mo ≤ 400) := by show _ ∧ _; omega
          have hw1 : IntKind.i64.wrap (1 + pk) = mo := by rw [hmo]; exact hw1
          have HIN := Lib.hid (nS_in HS.out.ri.num HS.out.ri.ok mo)
          obtain ⟨m, hm⟩ : ∃ q : Nat, nS s mo = (q : Int) := ⟨(nS s mo).toNat, by have := HIN.out.1; omega⟩
          have hm0 := HS.out.last (by have := HLE.out; omega) HAL2.out mo HMO.out m hm (by have := HLE.out; omega)
          have HTA := Lib.hid (take_hr HI.out.si.hr HS.out.ri.num (HS.out.rd_num (by have := HLE.out; omega)) mo m t hm HS.out.tk)
          have HNM := Lib.hid hm
          have hm0I : ¬ (m : Int) = 0 := by omega
          have HM0 : Hid (0 < m) := hm0
          clear hm HIN hpk hmo hm0
          go_wp2_with fail
          refine (HPK.out _).mono ?_; rintro e w' ⟨rfl, hw'⟩; subst hw'
          go_wp2_with fail
          refine HTA.out.mono ?_
          rintro e w6 ⟨A6, c6, K6, F6, rfl, hh6, hg6, hc6, hro6, hK6⟩
          obtain ⟨hs6, hsq6, htm6, hov6⟩ := HS.out.take mo m HNM.out K6 hK6
          obtain ⟨o1, ho1⟩ : ∃ q : Int, (if s.en = true ∧ t + m = al.length then (1 : Int) else 0) = q := ⟨_, rfl⟩
          obtain ⟨cd, hcd⟩ : ∃ q : Int, (if o1 = 2 then s.code else 0) = q := ⟨_, rfl⟩
          rw [hov6, ho1, hcd]
          rw [hsq6] at hro6
          have HI6 := Lib.hid (HI.out.call hh6 hg6)
          have HS6 := Lib.hid hs6
          have hl6 : ((al.drop t).take m).length = m := sub_len al t m htm6
          have HRD : Hid (Rd w6 w6.heap.size A6 (m * 1) (bv ((al.drop t).take m))) := by
            have := hro6.1
            rw [hl6] at this
            rw [Nat.mul_one]; exact this
          have hc6I : (m : Int) ≤ (c6 : Int) := by omega
          obtain ⟨i0, hi, hq0, hq1, hq2⟩ := info_parts infoB
          have HIB := Lib.hid (And.intro hi (And.intro hq0 (And.intro hq1 hq2)))
          have htm7 : t + m ≤ L := by rw [← HLE.out]; exact htm6
          have HD2 : Hid (t + m ≤ maxLen ∧ (t + m) * 1 ≤ 140737488355328) := ⟨by unfold maxLen; omega, by omega⟩
          have HO1 : Hid (o1 = if t + m = L then 1 else 0) := by
            show o1 = _
            rw [← ho1, HT.out.2 (by omega), HLE.out]
            simp
          clear hh6 hg6 hc6 hro6 hK6 hs6 hsq6 hov6 hl6 HI HTA hi hq0 hq1 hq2 htm6 ho1 hcd HPK
          go_wp2_with (at_builtin; refine wpList_app_at _ rfl (.tmp 198) (.tmp 199) 30 rfl w.heap.size 5 i0 (.int .u8 0) 1 1 Try.underlying30 HIB.out.1 HIB.out.2.1 HIB.out.2.2.1 HIB.out.2.2.2 rfl (by decide) (.slice Av t cv) t (bv (al.take t)) rfl HI6.out.si.got w6.heap.size A6 m c6 (bv ((al.drop t).take m)) rfl HRD.out (ones_bv _) HD2.out.1 HD2.out.2 HI6.out.si.hr.low.size ?_)
          intro v8 w8 ho8 hg8 hn8
          have hI8 := HI6.out.push hg8 ho8 hn8
          obtain ⟨A8, c8, e8, hc8, _⟩ := own_form ho8
          subst e8
          have HJ8 : Hid (∃ F s, SO w w8 p n0 F s A1 al (.slice A8 (t + m) c8) (t + m) g had ∧ OnP al (t + m) (fun x => had.getD x false) s ∧ s.top = (L : Int) ∧ (0 < L → s.en = true)) := ⟨F6, _, hI8, HS6.out, HT.out.1, HT.out.2⟩
          clear hI8 ho8 hg8 hn8 HI6 HS6 HRD HD2 HIB
          go_wp2_with fail
          go_roundw
          case rel => exact ⟨t + m, o1, ⟨A8, c8, rfl⟩, rfl, htm7, HO1.out, HJ8.out⟩
          case measure =>
            have := HM0.out
            simp [lenV]; omega
    case pos =>
      have hjnI : (j : Int) ≤ (N : Int) := by omega
      go_upto_if 53 with (fail)
      go_cut [14, 15, 16] (fun v14 v15 v16 wx => ∃ (a b0 : Nat) (mo : Int), v14 = .int .i64 (a : Int) ∧ v15 = .int .i64 (b0 : Int) ∧ v16 = .int .i64 mo ∧ a ≤ b0 ∧ b0 ≤ L ∧ 0 ≤ mo ∧ mo ≤ 400 ∧ wx = wr ∧ Hid (j = N → a = 0 ∧ b0 = L))
      case first =>
        by_cases hlt : j < N
        case neg =>
          have hlti : ¬ (j : Int) < (N : Int) := by omega
          go_wp2_with fail
          go_meet
          case rel => exact ⟨0, L, (L : Int), rfl, rfl, rfl, by omega, Nat.le_refl _, by omega, by omega, rfl, fun _ => ⟨rfl, rfl⟩⟩
        case pos =>
          have hlti : (j : Int) < (N : Int) := by omega
          obtain ⟨bb, o, hA, hbw, hcs⟩ := HRS.out.rd (by omega)
          subst hA
          obtain ⟨x, hx⟩ : ∃ x, rs[j]? = some x := ⟨_, List.getElem?_eq_getElem (by rw [HRS.out.len]; omega)⟩
          obtain ⟨hxo, hxc⟩ := hcs j x hx
          obtain ⟨x0, x1, x2, x3, x4, A5, x5, c5⟩ := x
          have hW := HI.out.si.hr.low
          have z1 : wr.cell? ⟨bb, o + j * 6 + 1, none⟩ = some (.int .i64 x1) := (hW.cell (p := ⟨bb, o + j * 6 + 1, none⟩) hbw).trans (hxc 1 _ rfl)
          have z2 : wr.cell? ⟨bb, o + j * 6 + 2, none⟩ = some (.int .i64 x2) := (hW.cell (p := ⟨bb, o + j * 6 + 2, none⟩) hbw).trans (hxc 2 _ rfl)
          have z3 : wr.cell? ⟨bb, o + j * 6 + 3, none⟩ = some (.int .i64 x3) := (hW.cell (p := ⟨bb, o + j * 6 + 3, none⟩) hbw).trans (hxc 3 _ rfl)
          clear hcs hx hxo hxc hW
          have hS1 : (0 : Int) < ((L : Int) + 1) := by omega
          obtain ⟨a, ha, haE⟩ : ∃ q : Nat, x1 % ((L : Int) + 1) = (q : Int) ∧ q ≤ L := ⟨(x1 % ((L : Int) + 1)).toNat, by have := Int.emod_nonneg x1 (show ((L : Int) + 1) ≠ 0 by omega); omega, by have := Int.emod_lt_of_pos x1 hS1; have := Int.emod_nonneg x1 (show ((L : Int) + 1) ≠ 0 by omega); omega⟩
          have HPA := Lib.hid (fun W => pick_any x1 ((L : Int) + 1) W hS1 (by omega))
          rw [ha] at HPA
          have hS2 : (0 : Int) < ((L : Int) - (a : Int) + 1) := by omega
          obtain ⟨n, hn, hnE⟩ : ∃ q : Nat, x2 % ((L : Int) - (a : Int) + 1) = (q : Int) ∧ a + q ≤ L := ⟨(x2 % ((L : Int) - (a : Int) + 1)).toNat, by have := Int.emod_nonneg x2 (show ((L : Int) - (a : Int) + 1) ≠ 0 by omega); omega, by have := Int.emod_lt_of_pos x2 hS2; have := Int.emod_nonneg x2 (show ((L : Int) - (a : Int) + 1) ≠ 0 by omega); omega⟩
          have HPN := Lib.hid (fun W => pick_any x2 ((L : Int) - (a : Int) + 1) W hS2 (by omega))
          rw [hn] at HPN
          obtain ⟨mo, hmo, hmo0, hmo4⟩ : ∃ q : Int, x3 % 40 = q ∧ 0 ≤ q ∧ q ≤ 400 := ⟨_, rfl, by omega, by omega⟩
          have HPM := Lib.hid (fun W => pick_any x3 40 W (by decide) (by decide))
          rw [hmo] at HPM
          have hwa1 : IntKind.i64.wrap ((L : Int) - (a : Int)) = (L : Int) - (a : Int) := IntWalk.i64_in _ (by omega)
          have hwa2 : IntKind.i64.wrap ((L : Int) - (a : Int) + 1) = (L : Int) - (a : Int) + 1 := IntWalk.i64_in _ (by omega)
          obtain ⟨b0, hb0⟩ : ∃ q, a + n = q := ⟨_, rfl⟩
          have hwa3 : IntKind.i64.wrap ((a : Int) + (n : Int)) = (b0 : Int) := by rw [IntWalk.i64_in _ (by omega)]; omega
          have hab : a ≤ b0 ∧ b0 ≤ L := by omega
          clear ha hn hmo hS1 hS2 hb0
          go_wp2_with fail
          refine (HPA.out _).mono ?_; rintro e w' ⟨rfl, hw'⟩; subst hw'
          go_wp2_with fail
          refine (HPN.out _).mono ?_; rintro e w' ⟨rfl, hw'⟩; subst hw'
          go_wp2_with fail
          refine (HPM.out _).mono ?_; rintro e w' ⟨rfl, hw'⟩; subst hw'
          go_wp2_with fail
          go_meet
          case rel => exact ⟨a, b0, mo, rfl, rfl, rfl, hab.1, hab.2, hmo0, hmo4, rfl, fun h => absurd h (by omega)⟩
      case rest =>
        obtain ⟨a, b0, mo, rfl, rfl, rfl, hab, hbL, hmo0, hmo4, rfl, HLAST⟩ := hcut
        obtain ⟨n, hn⟩ : ∃ q, b0 - a = q := ⟨_, rfl⟩
        have hb0 : a + n = b0 := by omega
        obtain ⟨s1, f1, hp1, hs1, hf1, hen1⟩ := HS.out.put (by have := HLE.out; omega) a n (by have := HLE.out; omega)
        have hlS := sub_len al a n (by have := HLE.out; omega)
        have HP := Lib.hid (put_hr HI.out.si.hr HS.out.ri.num (a : Int) (decide (a + n = al.length)) (c1 - a) (by rw [hlS]; have := HN0.out; omega) (HI.out.si.all.sub c1 a n (by have := HLE.out; omega) (by have := HLE.out; omega)) (by rw [hlS]; omega) (fun x hx => HAL.out x (List.mem_of_mem_drop (List.mem_of_mem_take hx))) (by rw [hlS]; omega))
        rw [hp1, hlS, HLE.out, hb0] at HP
        rw [hb0, HLE.out] at hen1
        have HI1 := Lib.hid HI.out
        have HS1 := Lib.hid hs1
        have HF1 : Hid (fr + f1 = s1.top) := by have := HFR.out; show _ = _; omega
        have HEN := Lib.hid hen1
        obtain ⟨XA, hXA⟩ : ∃ q, tailA A1 c1 a = q := ⟨_, rfl⟩
        rw [hXA] at HP
        have hXA2 : (if c1 = a then A1 else A1.map (·.add a)) = XA := hXA
        have han1 : (a : Int) ≤ (b0 : Int) := by omega
        have han2 : (b0 : Int) ≤ (c1 : Int) := by omega
        have han3 : (b0 : Int) - (a : Int) = (n : Int) := by omega
        have han4 : ((b0 : Int) - (a : Int)).toNat = n := by omega
        have han5 : b0 - a = n := by omega
        have HB0 : Hid (a + n = b0) := hb0
        have hs1t : 0 ≤ s1.top ∧ s1.top ≤ 400 := by have h1 := hs1.top; have h2 := hs1.ri.top; have := HLE.out; omega
        have HBQ : Hid (((b0 : Int) == (L : Int)) = decide (b0 = L)) := by
          show _ = _
          by_cases h : b0 = L
          · rw [h, decide_eq_true rfl]; exact beq_self_eq_true _
          · rw [decide_eq_false h]; exact beq_false_of_ne (by omega)
        clear hn hp1 hs1 hlS hXA hf1 hen1 hb0 HS HI HFR HOV HALL
        go_wp2_with fail
        rw [HBQ.out]
        refine HP.out.mono ?_
        rintro e w4 ⟨rfl, F4, hh4, hg4⟩
        have HI4 := Lib.hid (HI1.out.call hh4 hg4)
        clear hh4 hg4 HP HI1 hXA2 han1 han2 han3 han4 han5 HBQ
        obtain ⟨tp, htp⟩ : ∃ q, s1.top = q := ⟨_, rfl⟩
        rw [htp] at hs1t
        have hwf : IntKind.i64.wrap (fr + f1) = tp := by rw [HF1.out, htp]; exact IntWalk.i64_in _ (by omega)
        have HTP := Lib.hid htp
        clear htp
        go_wp2_with fail
        go_loopw [19] (fun i wr => ∃ (k : Nat), i = .int .i64 (k : Int) ∧ a ≤ k ∧ k ≤ b0 ∧ Hid (∃ had', SO w wr p (n0 + n) F4 s1 A1 al (.slice Av t cv) t g had' ∧ had'.length = al.length + 1 ∧ ∀ x, x < al.length → had'.getD x false = (decide (a ≤ x ∧ x < k) || had.getD x false))) (fun i _ => b0 - (intOf i).toNat)
        case atStart => exact ⟨a, rfl, Nat.le_refl _, hab, had, HI4.out, HHL.out, fun x _ => by rw [decide_eq_false (by omega)]; simp⟩
        case round =>
          clear HI4
          obtain ⟨k, rfl, hak, hkb, HK2⟩ := hrel
          obtain ⟨had', hso, hhl', hhd'⟩ := HK2.out
          have HSO := Lib.hid hso
          have HHL2 := Lib.hid hhl'
          have HHD := Lib.hid hhd'
          clear hso hhl' hhd' HK2
          by_cases hkl : k < b0
          case pos =>
            have hklI : (k : Int) < (b0 : Int) := by omega
            have hkL1 : (k : Int) < (L : Int) + 1 := by omega
            have hkL2 : k < L + 1 := by omega
            have HKL : Hid (k + 1 ≤ b0) := hkl
            have hgc := (HSO.out.hd.get k (by rw [HHL2.out, HLE.out]; omega)).1
            have hgf := (HSO.out.hd.get k (by rw [HHL2.out, HLE.out]; omega)).2
            have HN2 : Hid (∃ had'', SO w (wr.setCell ⟨g, k, none⟩ (.bool true)) p (n0 + n) F4 s1 A1 al (.slice Av t cv) t g had'' ∧ had''.length = al.length + 1 ∧ ∀ x, x < al.length → had''.getD x false = (decide (a ≤ x ∧ x < k + 1) || had.getD x false)) := by
              refine ⟨_, HSO.out.set k, by rw [List.length_set]; exact HHL2.out, fun x hx => ?_⟩
              rw [getD_setB _ _ _ (by rw [HHL2.out, HLE.out]; omega), HHD.out x hx]
              by_cases e : x = k
              · subst e
                rw [decide_eq_true rfl, decide_eq_true (show a ≤ x ∧ x < x + 1 by omega)]
                simp
              · rw [decide_eq_false e, Bool.false_or]
                congr 1
                exact decide_eq_decide.2 (by omega)
            clear HSO HHL2 HHD
            go_wp2_with fail
            go_roundw
            case rel => exact ⟨k + 1, by go_num, by omega, HKL.out, HN2⟩
            case measure =>
              have := HKL.out
              simp [intOf]; omega
          case neg =>
            have hklI : ¬ (k : Int) < (b0 : Int) := by omega
            have HHX : Hid (∀ x, x < al.length → had'.getD x false = (decide (a ≤ x ∧ x < b0) || had.getD x false)) := fun x hx => by
              rw [HHD.out x hx, show k = b0 by omega]
            have HS2 : Hid (OnP al t (fun x => had'.getD x false) s1) := HS1.out.congr fun x hx => by
              show _ = had'.getD x false
              rw [HHX.out x hx, HB0.out]
            have HIN := Lib.hid (nS_in HS2.out.ri.num HS2.out.ri.ok mo)
            obtain ⟨m, hm⟩ : ∃ q : Nat, nS s1 mo = (q : Int) := ⟨(nS s1 mo).toNat, by have := HIN.out.1; omega⟩
            have HTA := Lib.hid (take_hr HSO.out.si.hr HS2.out.ri.num (HS2.out.rd_num (by have := HLE.out; omega)) mo m t hm HS2.out.tk)
            have HNM := Lib.hid hm
            clear hm HIN HHD HS1
            go_wp2_with fail
            refine HTA.out.mono ?_
            rintro e w6 ⟨A6, c6, K6, F6, rfl, hh6, hg6, hc6, hro6, hK6⟩
            obtain ⟨hs6, hsq6, htm6, hov6⟩ := HS2.out.take mo m HNM.out K6 hK6
            obtain ⟨o1, ho1⟩ : ∃ q : Int, (if s1.en = true ∧ t + m = al.length then (1 : Int) else 0) = q := ⟨_, rfl⟩
            obtain ⟨cd, hcd⟩ : ∃ q : Int, (if o1 = 2 then s1.code else 0) = q := ⟨_, rfl⟩
            rw [hov6, ho1, hcd]
            rw [hsq6] at hro6
            have HI6 := Lib.hid (HSO.out.call hh6 hg6)
            have HS6 := Lib.hid hs6
            have hl6 : ((al.drop t).take m).length = m := sub_len al t m htm6
            have HRD : Hid (Rd w6 w6.heap.size A6 (m * 1) (bv ((al.drop t).take m))) := by
              have := hro6.1
              rw [hl6] at this
              rw [Nat.mul_one]; exact this
            have hc6I : (m : Int) ≤ (c6 : Int) := by omega
            obtain ⟨i0, hi, hq0, hq1, hq2⟩ := info_parts infoB
            have HIB := Lib.hid (And.intro hi (And.intro hq0 (And.intro hq1 hq2)))
            have htm7 : t + m ≤ L := by rw [← HLE.out]; exact htm6
            have HD2 : Hid (t + m ≤ maxLen ∧ (t + m) * 1 ≤ 140737488355328) := ⟨by unfold maxLen; omega, by omega⟩
            have HO1 : Hid (o1 = if t + m = L then 1 else 0) := by
              show o1 = _
              rw [← ho1]
              by_cases ht : t + m = L
              · have he : s1.en = true := by
                  rcases Nat.eq_zero_or_pos L with hz | hz
                  · exact HEN.out (by omega)
                  · refine HS2.out.fin (by have := HLE.out; omega) ?_
                    have h5 := hs6.mem (L - 1) (by have := HLE.out; omega)
                    rw [HLE.out]
                    rw [← h5]
                    exact hs6.ri.had _ (by omega) (by rw [hs6.tk]; omega)
                rw [if_pos ⟨he, by rw [ht, HLE.out]⟩, if_pos ht]
              · rw [if_neg (fun h => ht (h.2.trans HLE.out)), if_neg ht]
            clear hh6 hg6 hc6 hro6 hK6 hs6 hsq6 hov6 hl6 HSO HTA hi hq0 hq1 hq2 htm6 ho1 hcd HEN
            go_wp2_with (at_builtin; refine wpList_app_at _ rfl (.tmp 117) (.tmp 118) 30 rfl w.heap.size 5 i0 (.int .u8 0) 1 1 Try.underlying30 HIB.out.1 HIB.out.2.1 HIB.out.2.2.1 HIB.out.2.2.2 rfl (by decide) (.slice Av t cv) t (bv (al.take t)) rfl HI6.out.si.got w6.heap.size A6 m c6 (bv ((al.drop t).take m)) rfl HRD.out (ones_bv _) HD2.out.1 HD2.out.2 HI6.out.si.hr.low.size ?_)
            intro v8 w8 ho8 hg8 hn8
            have hI8 := HI6.out.push hg8 ho8 hn8
            obtain ⟨A8, c8, e8, hc8, _⟩ := own_form ho8
            subst e8
            have HJ8 : Hid (OnJ w w8 p A1 al g (.slice A8 (t + m) c8) (t + m) tp had' (j + 1)) := ⟨F6, _, _, hI8, HS6.out, HTP.out.symm, HHL2.out, by have := HN0.out; have := HB0.out; omega⟩
            have HI8 := Lib.hid hI8
            clear hI8 ho8 hg8 hn8 HI6 HS6 HRD HD2 HIB
            go_wp2_with fail
            go_loopw [23] (fun i wr => ∃ (f : Nat), i = .int .i64 (f : Int) ∧ f ≤ L ∧ Hid (Below w8.heap.size w8 wr) ∧ Hid (∀ x, x < f → had'.getD x false = true)) (fun i _ => L - (intOf i).toNat)
            case atStart => exact ⟨0, rfl, Nat.zero_le _, Below.refl _ _, fun x hx => absurd hx (by omega)⟩
            case round =>
              obtain ⟨f, rfl, hfL, HBW, HF⟩ := hrel
              have HI9 := Lib.hid (HI8.out.below HBW.out)
              have HJ9 := Lib.hid (HJ8.out.below HBW.out)
              have HSW := Lib.hid HBW.out.size
              clear HI8 HJ8
              by_cases hfl : f < L
              case pos =>
                have hflI : (f : Int) < (L : Int) := by omega
                have hfL1 : (f : Int) < (L : Int) + 1 := by omega
                have hgc := (HI9.out.hd.get f (by rw [HHL2.out, HLE.out]; omega)).1
                obtain ⟨bf, hbf⟩ : ∃ q, had'.getD f false = q := ⟨_, rfl⟩
                rw [hbf] at hgc
                cases bf
                · have HSTOP : Hid (f = L ∨ had'.getD f false = false) := .inr hbf
                  clear hbf
                  go_wp2_with fail
                  have hls := HS2.out.least mo ⟨hmo0, hmo4⟩ m HNM.out f (by rw [HLE.out]; exact hfL) HF.out (by rw [HLE.out]; exact HSTOP.out)
                  have HAF : Hid (j + 1 = N + 1 → ∀ x, x < L → had'.getD x false = true) := fun hj1 x hx => by
                    obtain ⟨h1, h2⟩ := HLAST.out (by omega)
                    rw [HHX.out x (by rw [HLE.out]; exact hx), decide_eq_true (by omega), Bool.true_or]
                  have HJN : Hid (j + 1 ≤ N + 1) := by show _ ≤ _; omega
                  obtain ⟨T, hT⟩ : ∃ q, t + m = q := ⟨_, rfl⟩
                  have hi9 := HI9.out
                  have hj9 := HJ9.out
                  have ho1 := HO1.out
                  rw [hT] at hi9 hj9 ho1 hc8 htm7 hls
                  rw [hT]
                  have hft : (f : Int) - (T : Int) + (m : Int) = (f : Int) - (t : Int) := by omega
                  obtain ⟨mq, hmq⟩ : ∃ q : Int, min mo ((f : Int) - (T : Int) + (m : Int)) = q := ⟨_, rfl⟩
                  have hmq2 : ¬ (m : Int) < mq := by rw [← hmq, hft]; have := hls.2.2; omega
                  have hw1 : IntKind.i64.wrap ((f : Int) - (T : Int)) = (f : Int) - (T : Int) := IntWalk.i64_in _ (by omega)
                  have hw2 : IntKind.i64.wrap ((f : Int) - (T : Int) + (m : Int)) = (f : Int) - (T : Int) + (m : Int) := IntWalk.i64_in _ (by omega)
                  have hmI : ¬ mo < (m : Int) := by have := hls.2.1; omega
                  have hTf : ¬ (f : Int) < (T : Int) := by have := hls.1; omega
                  have hT8 : (T : Int) ≤ (c8 : Int) := by omega
                  have HI9 := Lib.hid hi9
                  have HJ9 := Lib.hid hj9
                  clear hi9 hj9 hls hft HO1 HF HSTOP HNM HHX HLAST
                  by_cases hTL : T = L
                  · subst hTL
                    obtain rfl : o1 = 1 := by rw [ho1]; exact if_pos rfl
                    have hTc : (T : Int) ≤ (c1 : Int) := by omega
                    have HOF : Hid (0 < j + 1 → (1 : Int) = if T = T then 1 else 0) := fun _ => (if_pos rfl).symm
                    clear ho1 hT
                    obtain ⟨sx, hsx⟩ : ∃ x, strOf (al.take T) = x := ⟨_, rfl⟩
                    have HSX := Lib.hid hsx
                    have HS33 : Hid (∀ W, Below wr.heap.size wr W → (fun W : World => Below wr.heap.size wr W ∧ (convert 30 9 (.slice A8 T c8)).run Try.prog W = .ok (.string sx) W ∧ (convert 30 9 (.slice A1 T c1)).run Try.prog W = .ok (.string sx) W) W) := fun W hW => by
                      have h1 := (HI9.out.si.below hW).gotStr
                      have h2 := (HI9.out.si.below hW).allStr T (by have := HLE.out; omega) c1
                      rw [HSX.out] at h1 h2
                      exact ⟨hW, h1, h2⟩
                    clear hsx HI9
                    go_upto_region 33 with (fail)
                    refine wp_region_held_drew (S := (fun W : World => Below wr.heap.size wr W ∧ (convert 30 9 (.slice A8 T c8)).run Try.prog W = .ok (.string sx) W ∧ (convert 30 9 (.slice A1 T c1)).run Try.prog W = .ok (.string sx) W)) (by kernel_rfl) ?_ (fun hHeld => ?_)
                    · exact HS33.out _ ((Below.refl _ _).drew)
                    refine wpAnyH_take (i := 0) (v := ?_) rfl (by kernel_rfl) (by kernel_rfl) (by kernel_rfl) (fun _ _ _ h => h) (Or.inl ⟨by rfl, ?_⟩) (by assumption) ?_
                    rotate_left
                    · intro w hSw; (try dsimp only at hSw); go_simp; try with_reducible rfl
                    go_simp
                    refine wpAnyH_take (i := 1) (v := ?_) rfl (by kernel_rfl) (by kernel_rfl) (by kernel_rfl) (fun _ _ _ h => h) (Or.inl ⟨by rfl, ?_⟩) (by assumption) ?_
                    rotate_left
                    · intro w hSw; (try dsimp only at hSw); go_simp; try with_reducible rfl
                    go_simp
                    refine wpAnyH_take (i := 2) (v := ?_) rfl (by kernel_rfl) (by kernel_rfl) (by kernel_rfl) (fun _ _ _ h => h) (Or.inl ⟨by rfl, ?_⟩) (by assumption) ?_
                    rotate_left
                    · intro w hSw; (try dsimp only at hSw); go_simp; try with_reducible rfl
                    go_simp
                    refine wpAnyH_take (i := 3) (v := ?_) rfl (by kernel_rfl) (by kernel_rfl) (by kernel_rfl) (fun _ _ _ h => h) (Or.inl ⟨by rfl, ?_⟩) (by assumption) ?_
                    rotate_left
                    · intro w hSw; (try dsimp only at hSw); go_simp; try with_reducible rfl
                    go_simp
                    refine wpAnyH_take (i := 4) (v := ?_) rfl (by kernel_rfl) (by kernel_rfl) (by kernel_rfl) (fun _ _ _ h => h) (Or.inl ⟨by rfl, ?_⟩) (by assumption) ?_
                    rotate_left
                    · intro w hSw; (try dsimp only at hSw); go_simp; try with_reducible rfl
                    go_simp
                    refine wpAnyH_take (i := 5) (v := ?_) rfl (by kernel_rfl) (by kernel_rfl) (by kernel_rfl) (fun _ _ _ h => h) (Or.inl ⟨by rfl, ?_⟩) (by assumption) ?_
                    rotate_left
                    · intro w hSw; (try dsimp only at hSw); go_simp; try with_reducible rfl
                    go_simp
                    refine wpAnyH_take (i := 6) (v := ?_) rfl (by kernel_rfl) (by kernel_rfl) (by kernel_rfl) (fun _ _ _ h => h) (Or.inl ⟨by rfl, ?_⟩) (by assumption) ?_
                    rotate_left
                    · intro w hSw; (try dsimp only at hSw); go_simp; try with_reducible rfl
                    go_simp
                    refine wpAnyH_take (i := 7) (v := ?_) rfl (by kernel_rfl) (by kernel_rfl) (by kernel_rfl) (fun _ _ _ h => h) (Or.inl ⟨by rfl, ?_⟩) (by assumption) ?_
                    rotate_left
                    · intro w hSw; (try dsimp only at hSw); go_simp; try with_reducible rfl
                    go_simp
                    refine wpAnyH_take (i := 8) (v := ?_) rfl (by kernel_rfl) (by kernel_rfl) (by kernel_rfl) (fun _ _ _ h => h) (Or.inl ⟨by rfl, ?_⟩) (by assumption) ?_
                    rotate_left
                    · intro w hSw; (try dsimp only at hSw); go_simp; try with_reducible rfl
                    go_simp
                    refine wpAnyH_take (i := 9) (v := ?_) rfl (by kernel_rfl) (by kernel_rfl) (by kernel_rfl) (fun _ _ _ h => h) (Or.inl ⟨by rfl, ?_⟩) (by assumption) ?_
                    rotate_left
                    · intro w hSw; (try dsimp only at hSw); go_simp; try with_reducible rfl
                    go_simp
                    refine wpAnyH_take (i := 10) (v := ?_) rfl (by kernel_rfl) (by kernel_rfl) (by kernel_rfl) (fun _ _ _ h => h) (Or.inl ⟨by rfl, ?_⟩) (by assumption) ?_
                    rotate_left
                    · intro w hSw; (try dsimp only at hSw); go_simp; try with_reducible rfl
                    go_simp
                    refine wpAnyH_take (i := 11) (v := ?_) rfl (by kernel_rfl) (by kernel_rfl) (by kernel_rfl) (fun _ _ _ h => h) (Or.inl ⟨by rfl, ?_⟩) (by assumption) ?_
                    rotate_left
                    · intro w hSw; (try dsimp only at hSw); go_simp; try with_reducible rfl
                    go_simp
                    refine wpAnyH_take (i := 12) (v := ?_) rfl (by kernel_rfl) (by kernel_rfl) (by kernel_rfl) (fun _ _ _ h => h) (Or.inl ⟨by rfl, ?_⟩) (by assumption) ?_
                    rotate_left
                    · intro w hSw; (try dsimp only at hSw); go_simp; try with_reducible rfl
                    go_simp
                    refine wpAnyH_take (i := 13) (v := ?_) rfl (by kernel_rfl) (by kernel_rfl) (by kernel_rfl) (fun _ _ _ h => h) (Or.inl ⟨by rfl, ?_⟩) (by assumption) ?_
                    rotate_left
                    · intro w hSw; (try dsimp only at hSw); go_simp; try with_reducible rfl
                    go_simp
                    refine wpAnyH_take (i := 14) (v := ?_) rfl (by kernel_rfl) (by kernel_rfl) (by kernel_rfl) (fun _ _ _ h => h) (Or.inl ⟨by rfl, ?_⟩) (by assumption) ?_
                    rotate_left
                    · intro w hSw; (try dsimp only at hSw); go_simp; try with_reducible rfl
                    go_simp
                    refine wpAnyH_take (i := 15) (v := ?_) rfl (by kernel_rfl) (by kernel_rfl) (by kernel_rfl) (fun _ _ _ h => h) (Or.inl ⟨by rfl, ?_⟩) (by assumption) ?_
                    rotate_left
                    · intro w hSw; (try dsimp only at hSw); go_simp; try with_reducible rfl
                    go_simp
                    refine wpAnyH_take (i := 16) (v := ?_) rfl (by kernel_rfl) (by kernel_rfl) (by kernel_rfl) (fun _ _ _ h => h) (Or.inl ⟨by rfl, ?_⟩) (by assumption) ?_
                    rotate_left
                    · intro w hSw; (try dsimp only at hSw); go_simp; try with_reducible rfl
                    go_simp
                    refine wpAnyH_take (i := 17) (v := ?_) rfl (by kernel_rfl) (by kernel_rfl) (by kernel_rfl) (fun _ _ _ h => h) (Or.inl ⟨by rfl, ?_⟩) (by assumption) ?_
                    rotate_left
                    · intro w hSw; (try dsimp only at hSw); go_simp; try with_reducible rfl
                    go_simp
                    refine wpAnyH_take (i := 18) (v := ?_) rfl (by kernel_rfl) (by kernel_rfl) (by kernel_rfl) (fun _ _ _ h => h) (Or.inl ⟨by rfl, ?_⟩) (by assumption) ?_
                    rotate_left
                    · intro w hSw; (try dsimp only at hSw); go_simp; try with_reducible rfl
                    go_simp
                    refine wpAnyH_take (i := 19) (v := ?_) rfl (by kernel_rfl) (by kernel_rfl) (by kernel_rfl) (fun _ _ _ h => h) (Or.inl ⟨by rfl, ?_⟩) (by assumption) ?_
                    rotate_left
                    · intro w hSw; (try dsimp only at hSw); go_simp; try with_reducible rfl
                    go_simp
                    refine wpAnyH_take (i := 20) (v := ?_) rfl (by kernel_rfl) (by kernel_rfl) (by kernel_rfl) (fun _ _ _ h => h) (Or.inl ⟨by rfl, ?_⟩) (by assumption) ?_
                    rotate_left
                    · intro w hSw; (try dsimp only at hSw); go_simp; try with_reducible rfl
                    go_simp
                    refine wpAnyH_take (i := 21) (v := ?_) rfl (by kernel_rfl) (by kernel_rfl) (by kernel_rfl) (fun _ _ _ h => h) (Or.inl ⟨by rfl, ?_⟩) (by assumption) ?_
                    rotate_left
                    · intro w hSw; (try dsimp only at hSw); go_simp; try with_reducible rfl
                    go_simp
                    refine wpAnyH_take (i := 22) (v := ?_) rfl (by kernel_rfl) (by kernel_rfl) (by kernel_rfl) (fun _ _ _ h => h) (Or.inl ⟨by rfl, ?_⟩) (by assumption) ?_
                    rotate_left
                    · intro w hSw; (try dsimp only at hSw); go_simp; try with_reducible rfl
                    go_simp
                    refine wpAnyH_take (i := 23) (v := ?_) rfl (by kernel_rfl) (by kernel_rfl) (by kernel_rfl) (fun _ _ _ h => h) (Or.inl ⟨by rfl, ?_⟩) (by assumption) ?_
                    rotate_left
                    · intro w hSw; (try dsimp only at hSw); go_simp; try with_reducible rfl
                    go_simp
                    refine wpAnyH_take (i := 24) (v := ?_) rfl (by kernel_rfl) (by kernel_rfl) (by kernel_rfl) (fun _ _ _ h => h) (Or.inl ⟨by rfl, ?_⟩) (by assumption) ?_
                    rotate_left
                    · intro w hSw; (try dsimp only at hSw); go_simp; try with_reducible rfl
                    go_simp
                    refine wpAnyH_take (i := 25) (v := ?_) rfl (by kernel_rfl) (by kernel_rfl) (by kernel_rfl) (fun _ _ _ h => h) (Or.inl ⟨by rfl, ?_⟩) (by assumption) ?_
                    rotate_left
                    · intro w hSw; (try dsimp only at hSw); go_simp; try with_reducible rfl
                    go_simp
                    refine wpAnyH_take (i := 26) (v := ?_) rfl (by kernel_rfl) (by kernel_rfl) (by kernel_rfl) (fun _ _ _ h => h) (Or.inl ⟨by rfl, ?_⟩) (by assumption) ?_
                    rotate_left
                    · intro w hSw; (try dsimp only at hSw); go_simp; try with_reducible rfl
                    go_simp
                    refine wpAnyH_take (i := 27) (v := ?_) rfl (by kernel_rfl) (by kernel_rfl) (by kernel_rfl) (fun _ _ _ h => h) (Or.inl ⟨by rfl, ?_⟩) (by assumption) ?_
                    rotate_left
                    · intro w hSw; (try dsimp only at hSw); go_simp; try with_reducible rfl
                    go_simp
                    refine wpAnyH_take (i := 28) (v := ?_) rfl (by kernel_rfl) (by kernel_rfl) (by kernel_rfl) (fun _ _ _ h => h) (Or.inl ⟨by rfl, ?_⟩) (by assumption) ?_
                    rotate_left
                    · intro w hSw; (try dsimp only at hSw); go_simp; try with_reducible rfl
                    go_simp
                    refine wpAnyH_take (i := 29) (v := ?_) rfl (by kernel_rfl) (by kernel_rfl) (by kernel_rfl) (fun _ _ _ h => h) (Or.inl ⟨by rfl, ?_⟩) (by assumption) ?_
                    rotate_left
                    · intro w hSw; (try dsimp only at hSw); go_simp; try with_reducible rfl
                    go_simp
                    refine wpAnyH_take (i := 30) (v := ?_) rfl (by kernel_rfl) (by kernel_rfl) (by kernel_rfl) (fun _ _ _ h => h) (Or.inl ⟨by rfl, ?_⟩) (by assumption) ?_
                    rotate_left
                    · intro w hSw; (try dsimp only at hSw); go_simp; try with_reducible rfl
                    go_simp
                    refine wpAnyH_take (i := 31) (v := ?_) rfl (by kernel_rfl) (by kernel_rfl) (by kernel_rfl) (fun _ _ _ h => h) (Or.inl ⟨by rfl, ?_⟩) (by assumption) ?_
                    rotate_left
                    · intro w hSw; (try dsimp only at hSw); go_simp; try with_reducible rfl
                    go_simp
                    refine wpAnyH_take (i := 32) (v := ?_) rfl (by kernel_rfl) (by kernel_rfl) (by kernel_rfl) (fun _ _ _ h => h) (Or.inl ⟨by rfl, ?_⟩) (by assumption) ?_
                    rotate_left
                    · intro w hSw; (try dsimp only at hSw); go_simp; try with_reducible rfl
                    go_simp
                    refine wpAnyH_take (i := 33) (v := ?_) rfl (by kernel_rfl) (by kernel_rfl) (by kernel_rfl) (fun _ _ _ h => h) (Or.inl ⟨by rfl, ?_⟩) (by assumption) ?_
                    rotate_left
                    · intro w hSw; (try dsimp only at hSw); go_simp; try with_reducible rfl
                    go_simp
                    refine wpAnyH_take (i := 34) (v := ?_) rfl (by kernel_rfl) (by kernel_rfl) (by kernel_rfl) (fun _ _ _ h => h) (Or.inl ⟨by rfl, ?_⟩) (by assumption) ?_
                    rotate_left
                    · intro w hSw; (try dsimp only at hSw); go_simp; try with_reducible rfl
                    go_simp
                    refine wpAnyH_take (i := 35) (v := ?_) rfl (by kernel_rfl) (by kernel_rfl) (by kernel_rfl) (fun _ _ _ h => h) (Or.inl ⟨by rfl, ?_⟩) (by assumption) ?_
                    rotate_left
                    · intro w hSw; (try dsimp only at hSw); go_simp; try with_reducible rfl
                    go_simp
                    refine wpAnyH_take (i := 36) (v := ?_) rfl (by kernel_rfl) (by kernel_rfl) (by kernel_rfl) (fun _ _ _ h => h) (Or.inl ⟨by rfl, ?_⟩) (by assumption) ?_
                    rotate_left
                    · intro w hSw; (try dsimp only at hSw); go_simp; try with_reducible rfl
                    go_simp
                    refine wpAnyH_take (i := 37) (v := ?_) rfl (by kernel_rfl) (by kernel_rfl) (by kernel_rfl) (fun _ _ _ h => h) (Or.inl ⟨by rfl, ?_⟩) (by assumption) ?_
                    rotate_left
                    · intro w hSw; (try dsimp only at hSw); go_simp; try with_reducible rfl
                    go_simp
                    refine wpAnyH_take (i := 38) (v := ?_) rfl (by kernel_rfl) (by kernel_rfl) (by kernel_rfl) (fun _ _ _ h => h) (Or.inl ⟨by rfl, ?_⟩) (by assumption) ?_
                    rotate_left
                    · intro w hSw; (try dsimp only at hSw); go_simp; try with_reducible rfl
                    go_simp
                    refine wpAnyH_take (i := 39) (v := ?_) rfl (by kernel_rfl) (by kernel_rfl) (by kernel_rfl) (fun _ _ _ h => h) (Or.inl ⟨by rfl, ?_⟩) (by assumption) ?_
                    rotate_left
                    · intro w hSw; (try dsimp only at hSw); go_simp; try with_reducible rfl
                    go_simp
                    refine wpAnyH_take (i := 40) (v := ?_) rfl (by kernel_rfl) (by kernel_rfl) (by kernel_rfl) (fun _ _ _ h => h) (Or.inl ⟨by rfl, ?_⟩) (by assumption) ?_
                    rotate_left
                    · intro w hSw; (try dsimp only at hSw); go_simp; try with_reducible rfl
                    go_simp
                    refine wpAnyH_take (i := 41) (v := ?_) rfl (by kernel_rfl) (by kernel_rfl) (by kernel_rfl) (fun _ _ _ h => h) (Or.inl ⟨by rfl, ?_⟩) (by assumption) ?_
                    rotate_left
                    · intro w hSw; (try dsimp only at hSw); go_simp; try with_reducible rfl
                    go_simp
                    refine wpAnyH_take (i := 42) (v := ?_) rfl (by kernel_rfl) (by kernel_rfl) (by kernel_rfl) (fun _ _ _ h => h) (Or.inl ⟨by rfl, ?_⟩) (by assumption) ?_
                    rotate_left
                    · intro w hSw; (try dsimp only at hSw); go_simp; try with_reducible rfl
                    go_simp
                    refine wpAnyH_take (i := 43) (v := ?_) rfl (by kernel_rfl) (by kernel_rfl) (by kernel_rfl) (fun _ _ _ h => h) (Or.inl ⟨by rfl, ?_⟩) (by assumption) ?_
                    rotate_left
                    · intro w hSw; (try dsimp only at hSw); go_simp; try with_reducible rfl
                    go_simp
                    refine wpAnyH_take (i := 44) (v := ?_) rfl (by kernel_rfl) (by kernel_rfl) (by kernel_rfl) (fun _ _ _ h => h) (Or.inl ⟨by rfl, ?_⟩) (by assumption) ?_
                    rotate_left
                    · intro w hSw; (try dsimp only at hSw); go_simp; try with_reducible rfl
                    go_simp
                    refine wpAnyH_take (i := 45) (v := ?_) rfl (by kernel_rfl) (by kernel_rfl) (by kernel_rfl) (fun _ _ _ h => h) (Or.inl ⟨by rfl, ?_⟩) (by assumption) ?_
                    rotate_left
                    · intro w hSw; (try dsimp only at hSw); go_simp; try with_reducible rfl
                    go_simp
                    refine wpAnyH_take (i := 46) (v := ?_) rfl (by kernel_rfl) (by kernel_rfl) (by kernel_rfl) (fun _ _ _ h => h) (Or.inl ⟨by rfl, ?_⟩) (by assumption) ?_
                    rotate_left
                    · intro w hSw; (try dsimp only at hSw); go_simp; try with_reducible rfl
                    go_simp
                    refine wpAnyH_take (i := 47) (v := ?_) rfl (by kernel_rfl) (by kernel_rfl) (by kernel_rfl) (fun _ _ _ h => h) (Or.inl ⟨by rfl, ?_⟩) (by assumption) ?_
                    rotate_left
                    · intro w hSw; (try dsimp only at hSw); go_simp; try with_reducible rfl
                    go_simp
                    refine wpAnyH_done (by kernel_rfl) ?_ _

                    have HJF : Hid (OnJ w _ p A1 al g (.slice A8 T c8) T tp had' (j + 1)) := HJ9.out.below hHeld.1
                    clear hHeld HJ9
                    go_wp2_with fail
                    go_roundw
                    case rel => exact ⟨j + 1, T, tp, _, had', HJN.out, ⟨A8, c8, rfl⟩, rfl, rfl, by go_num, htm7, HOF.out, HAF.out, HJF.out⟩
                    case measure =>
                      have := HJN.out
                      simp [intOf]; omega
                  · have hTLI : ¬ (T : Int) = (L : Int) := by omega
                    have hTc : (T : Int) ≤ (c1 : Int) := by omega
                    have hTLB : ((T : Int) == (L : Int)) = false := beq_false_of_ne hTLI
                    obtain rfl : o1 = 0 := by rw [ho1]; exact if_neg hTL
                    have HOF : Hid (0 < j + 1 → (0 : Int) = if T = L then 1 else 0) := fun _ => (if_neg hTL).symm
                    clear ho1 hT
                    obtain ⟨sx, hsx⟩ : ∃ x, strOf (al.take T) = x := ⟨_, rfl⟩
                    have HSX := Lib.hid hsx
                    have HS33 : Hid (∀ W, Below wr.heap.size wr W → (fun W : World => Below wr.heap.size wr W ∧ (convert 30 9 (.slice A8 T c8)).run Try.prog W = .ok (.string sx) W ∧ (convert 30 9 (.slice A1 T c1)).run Try.prog W = .ok (.string sx) W) W) := fun W hW => by
                      have h1 := (HI9.out.si.below hW).gotStr
                      have h2 := (HI9.out.si.below hW).allStr T (by have := HLE.out; omega) c1
                      rw [HSX.out] at h1 h2
                      exact ⟨hW, h1, h2⟩
                    clear hsx HI9
                    go_upto_region 33 with (fail)
                    refine wp_region_held_drew (S := (fun W : World => Below wr.heap.size wr W ∧ (convert 30 9 (.slice A8 T c8)).run Try.prog W = .ok (.string sx) W ∧ (convert 30 9 (.slice A1 T c1)).run Try.prog W = .ok (.string sx) W)) (by kernel_rfl) ?_ (fun hHeld => ?_)
                    · exact HS33.out _ ((Below.refl _ _).drew)
                    refine wpAnyH_take (i := 0) (v := ?_) rfl (by kernel_rfl) (by kernel_rfl) (by kernel_rfl) (fun _ _ _ h => h) (Or.inl ⟨by rfl, ?_⟩) (by assumption) ?_
                    rotate_left
                    · intro w hSw; (try dsimp only at hSw); go_simp; try with_reducible rfl
                    go_simp
                    refine wpAnyH_take (i := 1) (v := ?_) rfl (by kernel_rfl) (by kernel_rfl) (by kernel_rfl) (fun _ _ _ h => h) (Or.inl ⟨by rfl, ?_⟩) (by assumption) ?_
                    rotate_left
                    · intro w hSw; (try dsimp only at hSw); go_simp; try with_reducible rfl
                    go_simp
                    refine wpAnyH_take (i := 2) (v := ?_) rfl (by kernel_rfl) (by kernel_rfl) (by kernel_rfl) (fun _ _ _ h => h) (Or.inl ⟨by rfl, ?_⟩) (by assumption) ?_
                    rotate_left
                    · intro w hSw; (try dsimp only at hSw); go_simp; try with_reducible rfl
                    go_simp
                    refine wpAnyH_take (i := 3) (v := ?_) rfl (by kernel_rfl) (by kernel_rfl) (by kernel_rfl) (fun _ _ _ h => h) (Or.inl ⟨by rfl, ?_⟩) (by assumption) ?_
                    rotate_left
                    · intro w hSw; (try dsimp only at hSw); go_simp; try with_reducible rfl
                    go_simp
                    refine wpAnyH_take (i := 4) (v := ?_) rfl (by kernel_rfl) (by kernel_rfl) (by kernel_rfl) (fun _ _ _ h => h) (Or.inl ⟨by rfl, ?_⟩) (by assumption) ?_
                    rotate_left
                    · intro w hSw; (try dsimp only at hSw); go_simp; try with_reducible rfl
                    go_simp
                    refine wpAnyH_take (i := 5) (v := ?_) rfl (by kernel_rfl) (by kernel_rfl) (by kernel_rfl) (fun _ _ _ h => h) (Or.inl ⟨by rfl, ?_⟩) (by assumption) ?_
                    rotate_left
                    · intro w hSw; (try dsimp only at hSw); go_simp; try with_reducible rfl
                    go_simp
                    refine wpAnyH_take (i := 6) (v := ?_) rfl (by kernel_rfl) (by kernel_rfl) (by kernel_rfl) (fun _ _ _ h => h) (Or.inl ⟨by rfl, ?_⟩) (by assumption) ?_
                    rotate_left
                    · intro w hSw; (try dsimp only at hSw); go_simp; try with_reducible rfl
                    go_simp
                    refine wpAnyH_take (i := 7) (v := ?_) rfl (by kernel_rfl) (by kernel_rfl) (by kernel_rfl) (fun _ _ _ h => h) (Or.inl ⟨by rfl, ?_⟩) (by assumption) ?_
                    rotate_left
                    · intro w hSw; (try dsimp only at hSw); go_simp; try with_reducible rfl
                    go_simp
                    refine wpAnyH_take (i := 8) (v := ?_) rfl (by kernel_rfl) (by kernel_rfl) (by kernel_rfl) (fun _ _ _ h => h) (Or.inl ⟨by rfl, ?_⟩) (by assumption) ?_
                    rotate_left
                    · intro w hSw; (try dsimp only at hSw); go_simp; try with_reducible rfl
                    go_simp
                    refine wpAnyH_take (i := 9) (v := ?_) rfl (by kernel_rfl) (by kernel_rfl) (by kernel_rfl) (fun _ _ _ h => h) (Or.inl ⟨by rfl, ?_⟩) (by assumption) ?_
                    rotate_left
                    · intro w hSw; (try dsimp only at hSw); go_simp; try with_reducible rfl
                    go_simp
                    refine wpAnyH_take (i := 10) (v := ?_) rfl (by kernel_rfl) (by kernel_rfl) (by kernel_rfl) (fun _ _ _ h => h) (Or.inl ⟨by rfl, ?_⟩) (by assumption) ?_
                    rotate_left
                    · intro w hSw; (try dsimp only at hSw); go_simp; try with_reducible rfl
                    go_simp
                    refine wpAnyH_take (i := 11) (v := ?_) rfl (by kernel_rfl) (by kernel_rfl) (by kernel_rfl) (fun _ _ _ h => h) (Or.inl ⟨by rfl, ?_⟩) (by assumption) ?_
                    rotate_left
                    · intro w hSw; (try dsimp only at hSw); go_simp; try with_reducible rfl
                    go_simp
                    refine wpAnyH_take (i := 12) (v := ?_) rfl (by kernel_rfl) (by kernel_rfl) (by kernel_rfl) (fun _ _ _ h => h) (Or.inl ⟨by rfl, ?_⟩) (by assumption) ?_
                    rotate_left
                    · intro w hSw; (try dsimp only at hSw); go_simp; try with_reducible rfl
                    go_simp
                    refine wpAnyH_take (i := 13) (v := ?_) rfl (by kernel_rfl) (by kernel_rfl) (by kernel_rfl) (fun _ _ _ h => h) (Or.inl ⟨by rfl, ?_⟩) (by assumption) ?_
                    rotate_left
                    · intro w hSw; (try dsimp only at hSw); go_simp; try with_reducible rfl
                    go_simp
                    refine wpAnyH_take (i := 14) (v := ?_) rfl (by kernel_rfl) (by kernel_rfl) (by kernel_rfl) (fun _ _ _ h => h) (Or.inl ⟨by rfl, ?_⟩) (by assumption) ?_
                    rotate_left
                    · intro w hSw; (try dsimp only at hSw); go_simp; try with_reducible rfl
                    go_simp
                    refine wpAnyH_take (i := 15) (v := ?_) rfl (by kernel_rfl) (by kernel_rfl) (by kernel_rfl) (fun _ _ _ h => h) (Or.inl ⟨by rfl, ?_⟩) (by assumption) ?_
                    rotate_left
                    · intro w hSw; (try dsimp only at hSw); go_simp; try with_reducible rfl
                    go_simp
                    refine wpAnyH_take (i := 16) (v := ?_) rfl (by kernel_rfl) (by kernel_rfl) (by kernel_rfl) (fun _ _ _ h => h) (Or.inl ⟨by rfl, ?_⟩) (by assumption) ?_
                    rotate_left
                    · intro w hSw; (try dsimp only at hSw); go_simp; try with_reducible rfl
                    go_simp
                    refine wpAnyH_take (i := 17) (v := ?_) rfl (by kernel_rfl) (by kernel_rfl) (by kernel_rfl) (fun _ _ _ h => h) (Or.inl ⟨by rfl, ?_⟩) (by assumption) ?_
                    rotate_left
                    · intro w hSw; (try dsimp only at hSw); go_simp; try with_reducible rfl
                    go_simp
                    refine wpAnyH_take (i := 18) (v := ?_) rfl (by kernel_rfl) (by kernel_rfl) (by kernel_rfl) (fun _ _ _ h => h) (Or.inl ⟨by rfl, ?_⟩) (by assumption) ?_
                    rotate_left
                    · intro w hSw; (try dsimp only at hSw); go_simp; try with_reducible rfl
                    go_simp
                    refine wpAnyH_take (i := 19) (v := ?_) rfl (by kernel_rfl) (by kernel_rfl) (by kernel_rfl) (fun _ _ _ h => h) (Or.inl ⟨by rfl, ?_⟩) (by assumption) ?_
                    rotate_left
                    · intro w hSw; (try dsimp only at hSw); go_simp; try with_reducible rfl
                    go_simp
                    refine wpAnyH_take (i := 20) (v := ?_) rfl (by kernel_rfl) (by kernel_rfl) (by kernel_rfl) (fun _ _ _ h => h) (Or.inl ⟨by rfl, ?_⟩) (by assumption) ?_
                    rotate_left
                    · intro w hSw; (try dsimp only at hSw); go_simp; try with_reducible rfl
                    go_simp
                    refine wpAnyH_take (i := 21) (v := ?_) rfl (by kernel_rfl) (by kernel_rfl) (by kernel_rfl) (fun _ _ _ h => h) (Or.inl ⟨by rfl, ?_⟩) (by assumption) ?_
                    rotate_left
                    · intro w hSw; (try dsimp only at hSw); go_simp; try with_reducible rfl
                    go_simp
                    refine wpAnyH_take (i := 22) (v := ?_) rfl (by kernel_rfl) (by kernel_rfl) (by kernel_rfl) (fun _ _ _ h => h) (Or.inl ⟨by rfl, ?_⟩) (by assumption) ?_
                    rotate_left
                    · intro w hSw; (try dsimp only at hSw); go_simp; try with_reducible rfl
                    go_simp
                    refine wpAnyH_take (i := 23) (v := ?_) rfl (by kernel_rfl) (by kernel_rfl) (by kernel_rfl) (fun _ _ _ h => h) (Or.inl ⟨by rfl, ?_⟩) (by assumption) ?_
                    rotate_left
                    · intro w hSw; (try dsimp only at hSw); go_simp; try with_reducible rfl
                    go_simp
                    refine wpAnyH_take (i := 24) (v := ?_) rfl (by kernel_rfl) (by kernel_rfl) (by kernel_rfl) (fun _ _ _ h => h) (Or.inl ⟨by rfl, ?_⟩) (by assumption) ?_
                    rotate_left
                    · intro w hSw; (try dsimp only at hSw); go_simp; try with_reducible rfl
                    go_simp
                    refine wpAnyH_take (i := 25) (v := ?_) rfl (by kernel_rfl) (by kernel_rfl) (by kernel_rfl) (fun _ _ _ h => h) (Or.inl ⟨by rfl, ?_⟩) (by assumption) ?_
                    rotate_left
                    · intro w hSw; (try dsimp only at hSw); go_simp; try with_reducible rfl
                    go_simp
                    refine wpAnyH_take (i := 26) (v := ?_) rfl (by kernel_rfl) (by kernel_rfl) (by kernel_rfl) (fun _ _ _ h => h) (Or.inl ⟨by rfl, ?_⟩) (by assumption) ?_
                    rotate_left
                    · intro w hSw; (try dsimp only at hSw); go_simp; try with_reducible rfl
                    go_simp
                    refine wpAnyH_take (i := 27) (v := ?_) rfl (by kernel_rfl) (by kernel_rfl) (by kernel_rfl) (fun _ _ _ h => h) (Or.inl ⟨by rfl, ?_⟩) (by assumption) ?_
                    rotate_left
                    · intro w hSw; (try dsimp only at hSw); go_simp; try with_reducible rfl
                    go_simp
                    refine wpAnyH_take (i := 28) (v := ?_) rfl (by kernel_rfl) (by kernel_rfl) (by kernel_rfl) (fun _ _ _ h => h) (Or.inl ⟨by rfl, ?_⟩) (by assumption) ?_
                    rotate_left
                    · intro w hSw; (try dsimp only at hSw); go_simp; try with_reducible rfl
                    go_simp
                    refine wpAnyH_take (i := 29) (v := ?_) rfl (by kernel_rfl) (by kernel_rfl) (by kernel_rfl) (fun _ _ _ h => h) (Or.inl ⟨by rfl, ?_⟩) (by assumption) ?_
                    rotate_left
                    · intro w hSw; (try dsimp only at hSw); go_simp; try with_reducible rfl
                    go_simp
                    refine wpAnyH_take (i := 30) (v := ?_) rfl (by kernel_rfl) (by kernel_rfl) (by kernel_rfl) (fun _ _ _ h => h) (Or.inl ⟨by rfl, ?_⟩) (by assumption) ?_
                    rotate_left
                    · intro w hSw; (try dsimp only at hSw); go_simp; try with_reducible rfl
                    go_simp
                    refine wpAnyH_take (i := 31) (v := ?_) rfl (by kernel_rfl) (by kernel_rfl) (by kernel_rfl) (fun _ _ _ h => h) (Or.inl ⟨by rfl, ?_⟩) (by assumption) ?_
                    rotate_left
                    · intro w hSw; (try dsimp only at hSw); go_simp; try with_reducible rfl
                    go_simp
                    refine wpAnyH_take (i := 32) (v := ?_) rfl (by kernel_rfl) (by kernel_rfl) (by kernel_rfl) (fun _ _ _ h => h) (Or.inl ⟨by rfl, ?_⟩) (by assumption) ?_
                    rotate_left
                    · intro w hSw; (try dsimp only at hSw); go_simp; try with_reducible rfl
                    go_simp
                    refine wpAnyH_take (i := 33) (v := ?_) rfl (by kernel_rfl) (by kernel_rfl) (by kernel_rfl) (fun _ _ _ h => h) (Or.inl ⟨by rfl, ?_⟩) (by assumption) ?_
                    rotate_left
                    · intro w hSw; (try dsimp only at hSw); go_simp; try with_reducible rfl
                    go_simp
                    refine wpAnyH_take (i := 34) (v := ?_) rfl (by kernel_rfl) (by kernel_rfl) (by kernel_rfl) (fun _ _ _ h => h) (Or.inl ⟨by rfl, ?_⟩) (by assumption) ?_
                    rotate_left
                    · intro w hSw; (try dsimp only at hSw); go_simp; try with_reducible rfl
                    go_simp
                    refine wpAnyH_take (i := 35) (v := ?_) rfl (by kernel_rfl) (by kernel_rfl) (by kernel_rfl) (fun _ _ _ h => h) (Or.inl ⟨by rfl, ?_⟩) (by assumption) ?_
                    rotate_left
                    · intro w hSw; (try dsimp only at hSw); go_simp; try with_reducible rfl
                    go_simp
                    refine wpAnyH_take (i := 36) (v := ?_) rfl (by kernel_rfl) (by kernel_rfl) (by kernel_rfl) (fun _ _ _ h => h) (Or.inl ⟨by rfl, ?_⟩) (by assumption) ?_
                    rotate_left
                    · intro w hSw; (try dsimp only at hSw); go_simp; try with_reducible rfl
                    go_simp
                    refine wpAnyH_take (i := 37) (v := ?_) rfl (by kernel_rfl) (by kernel_rfl) (by kernel_rfl) (fun _ _ _ h => h) (Or.inl ⟨by rfl, ?_⟩) (by assumption) ?_
                    rotate_left
                    · intro w hSw; (try dsimp only at hSw); go_simp; try with_reducible rfl
                    go_simp
                    refine wpAnyH_take (i := 38) (v := ?_) rfl (by kernel_rfl) (by kernel_rfl) (by kernel_rfl) (fun _ _ _ h => h) (Or.inl ⟨by rfl, ?_⟩) (by assumption) ?_
                    rotate_left
                    · intro w hSw; (try dsimp only at hSw); go_simp; try with_reducible rfl
                    go_simp
                    refine wpAnyH_take (i := 39) (v := ?_) rfl (by kernel_rfl) (by kernel_rfl) (by kernel_rfl) (fun _ _ _ h => h) (Or.inl ⟨by rfl, ?_⟩) (by assumption) ?_
                    rotate_left
                    · intro w hSw; (try dsimp only at hSw); go_simp; try with_reducible rfl
                    go_simp
                    refine wpAnyH_take (i := 40) (v := ?_) rfl (by kernel_rfl) (by kernel_rfl) (by kernel_rfl) (fun _ _ _ h => h) (Or.inl ⟨by rfl, ?_⟩) (by assumption) ?_
                    rotate_left
                    · intro w hSw; (try dsimp only at hSw); go_simp; try with_reducible rfl
                    go_simp
                    refine wpAnyH_take (i := 41) (v := ?_) rfl (by kernel_rfl) (by kernel_rfl) (by kernel_rfl) (fun _ _ _ h => h) (Or.inl ⟨by rfl, ?_⟩) (by assumption) ?_
                    rotate_left
                    · intro w hSw; (try dsimp only at hSw); go_simp; try with_reducible rfl
                    go_simp
                    refine wpAnyH_take (i := 42) (v := ?_) rfl (by kernel_rfl) (by kernel_rfl) (by kernel_rfl) (fun _ _ _ h => h) (Or.inl ⟨by rfl, ?_⟩) (by assumption) ?_
                    rotate_left
                    · intro w hSw; (try dsimp only at hSw); go_simp; try with_reducible rfl
                    go_simp
                    refine wpAnyH_take (i := 43) (v := ?_) rfl (by kernel_rfl) (by kernel_rfl) (by kernel_rfl) (fun _ _ _ h => h) (Or.inl ⟨by rfl, ?_⟩) (by assumption) ?_
                    rotate_left
                    · intro w hSw; (try dsimp only at hSw); go_simp; try with_reducible rfl
                    go_simp
                    refine wpAnyH_take (i := 44) (v := ?_) rfl (by kernel_rfl) (by kernel_rfl) (by kernel_rfl) (fun _ _ _ h => h) (Or.inl ⟨by rfl, ?_⟩) (by assumption) ?_
                    rotate_left
                    · intro w hSw; (try dsimp only at hSw); go_simp; try with_reducible rfl
                    go_simp
                    refine wpAnyH_take (i := 45) (v := ?_) rfl (by kernel_rfl) (by kernel_rfl) (by kernel_rfl) (fun _ _ _ h => h) (Or.inl ⟨by rfl, ?_⟩) (by assumption) ?_
                    rotate_left
                    · intro w hSw; (try dsimp only at hSw); go_simp; try with_reducible rfl
                    go_simp
                    refine wpAnyH_take (i := 46) (v := ?_) rfl (by kernel_rfl) (by kernel_rfl) (by kernel_rfl) (fun _ _ _ h => h) (Or.inl ⟨by rfl, ?_⟩) (by assumption) ?_
                    rotate_left
                    · intro w hSw; (try dsimp only at hSw); go_simp; try with_reducible rfl
                    go_simp
                    refine wpAnyH_take (i := 47) (v := ?_) rfl (by kernel_rfl) (by kernel_rfl) (by kernel_rfl) (fun _ _ _ h => h) (Or.inl ⟨by rfl, ?_⟩) (by assumption) ?_
                    rotate_left
                    · intro w hSw; (try dsimp only at hSw); go_simp; try with_reducible rfl
                    go_simp
                    refine wpAnyH_done (by kernel_rfl) ?_ _

                    have HJF : Hid (OnJ w _ p A1 al g (.slice A8 T c8) T tp had' (j + 1)) := HJ9.out.below hHeld.1
                    clear hHeld HJ9
                    go_wp2_with fail
                    go_roundw
                    case rel => exact ⟨j + 1, T, tp, _, had', HJN.out, ⟨A8, c8, rfl⟩, rfl, rfl, by go_num, htm7, HOF.out, HAF.out, HJF.out⟩
                    case measure =>
                      have := HJN.out
                      simp [intOf]; omega
                · have HFL : Hid (f + 1 ≤ L) := hfl
                  have HF2 : Hid (∀ x, x < f + 1 → had'.getD x false = true) := fun x hx => by
                    by_cases e : x = f
                    · rw [e]; exact hbf
                    · exact HF.out x (by omega)
                  clear hbf
                  go_wp2_with fail
                  go_roundw
                  case rel => exact ⟨f + 1, by go_num, HFL.out, HBW, HF2⟩
                  case measure =>
                    have := HFL.out
                    simp [intOf]; omega
              case neg =>
                have hflI : ¬ (f : Int) < (L : Int) := by omega
                have HSTOP : Hid (f = L ∨ had'.getD f false = false) := .inl (by omega)
                go_wp2_with fail
                · skip
                  have hls := HS2.out.least mo ⟨hmo0, hmo4⟩ m HNM.out f (by rw [HLE.out]; exact hfL) HF.out (by rw [HLE.out]; exact HSTOP.out)
                  have HAF : Hid (j + 1 = N + 1 → ∀ x, x < L → had'.getD x false = true) := fun hj1 x hx => by
                    obtain ⟨h1, h2⟩ := HLAST.out (by omega)
                    rw [HHX.out x (by rw [HLE.out]; exact hx), decide_eq_true (by omega), Bool.true_or]
                  have HJN : Hid (j + 1 ≤ N + 1) := by show _ ≤ _; omega
                  obtain ⟨T, hT⟩ : ∃ q, t + m = q := ⟨_, rfl⟩
                  have hi9 := HI9.out
                  have hj9 := HJ9.out
                  have ho1 := HO1.out
                  rw [hT] at hi9 hj9 ho1 hc8 htm7 hls
                  rw [hT]
                  have hft : (f : Int) - (T : Int) + (m : Int) = (f : Int) - (t : Int) := by omega
                  obtain ⟨mq, hmq⟩ : ∃ q : Int, min mo ((f : Int) - (T : Int) + (m : Int)) = q := ⟨_, rfl⟩
                  have hmq2 : ¬ (m : Int) < mq := by rw [← hmq, hft]; have := hls.2.2; omega
                  have hw1 : IntKind.i64.wrap ((f : Int) - (T : Int)) = (f : Int) - (T : Int) := IntWalk.i64_in _ (by omega)
                  have hw2 : IntKind.i64.wrap ((f : Int) - (T : Int) + (m : Int)) = (f : Int) - (T : Int) + (m : Int) := IntWalk.i64_in _ (by omega)
                  have hmI : ¬ mo < (m : Int) := by have := hls.2.1; omega
                  have hTf : ¬ (f : Int) < (T : Int) := by have := hls.1; omega
                  have hT8 : (T : Int) ≤ (c8 : Int) := by omega
                  have HI9 := Lib.hid hi9
                  have HJ9 := Lib.hid hj9
                  clear hi9 hj9 hls hft HO1 HF HSTOP HNM HHX HLAST
                  by_cases hTL : T = L
                  · subst hTL
                    obtain rfl : o1 = 1 := by rw [ho1]; exact if_pos rfl
                    have hTc : (T : Int) ≤ (c1 : Int) := by omega
                    have HOF : Hid (0 < j + 1 → (1 : Int) = if T = T then 1 else 0) := fun _ => (if_pos rfl).symm
                    clear ho1 hT
                    obtain ⟨sx, hsx⟩ : ∃ x, strOf (al.take T) = x := ⟨_, rfl⟩
                    have HSX := Lib.hid hsx
                    have HS33 : Hid (∀ W, Below wr.heap.size wr W → (fun W : World => Below wr.heap.size wr W ∧ (convert 30 9 (.slice A8 T c8)).run Try.prog W = .ok (.string sx) W ∧ (convert 30 9 (.slice A1 T c1)).run Try.prog W = .ok (.string sx) W) W) := fun W hW => by
                      have h1 := (HI9.out.si.below hW).gotStr
                      have h2 := (HI9.out.si.below hW).allStr T (by have := HLE.out; omega) c1
                      rw [HSX.out] at h1 h2
                      exact ⟨hW, h1, h2⟩
                    clear hsx HI9
                    go_upto_region 33 with (fail)
                    refine wp_region_held_drew (S := (fun W : World => Below wr.heap.size wr W ∧ (convert 30 9 (.slice A8 T c8)).run Try.prog W = .ok (.string sx) W ∧ (convert 30 9 (.slice A1 T c1)).run Try.prog W = .ok (.string sx) W)) (by kernel_rfl) ?_ (fun hHeld => ?_)
                    · exact HS33.out _ ((Below.refl _ _).drew)
                    refine wpAnyH_take (i := 0) (v := ?_) rfl (by kernel_rfl) (by kernel_rfl) (by kernel_rfl) (fun _ _ _ h => h) (Or.inl ⟨by rfl, ?_⟩) (by assumption) ?_
                    rotate_left
                    · intro w hSw; (try dsimp only at hSw); go_simp; try with_reducible rfl
                    go_simp
                    refine wpAnyH_take (i := 1) (v := ?_) rfl (by kernel_rfl) (by kernel_rfl) (by kernel_rfl) (fun _ _ _ h => h) (Or.inl ⟨by rfl, ?_⟩) (by assumption) ?_
                    rotate_left
                    · intro w hSw; (try dsimp only at hSw); go_simp; try with_reducible rfl
                    go_simp
                    refine wpAnyH_take (i := 2) (v := ?_) rfl (by kernel_rfl) (by kernel_rfl) (by kernel_rfl) (fun _ _ _ h => h) (Or.inl ⟨by rfl, ?_⟩) (by assumption) ?_
                    rotate_left
                    · intro w hSw; (try dsimp only at hSw); go_simp; try with_reducible rfl
                    go_simp
                    refine wpAnyH_take (i := 3) (v := ?_) rfl (by kernel_rfl) (by kernel_rfl) (by kernel_rfl) (fun _ _ _ h => h) (Or.inl ⟨by rfl, ?_⟩) (by assumption) ?_
                    rotate_left
                    · intro w hSw; (try dsimp only at hSw); go_simp; try with_reducible rfl
                    go_simp
                    refine wpAnyH_take (i := 4) (v := ?_) rfl (by kernel_rfl) (by kernel_rfl) (by kernel_rfl) (fun _ _ _ h => h) (Or.inl ⟨by rfl, ?_⟩) (by assumption) ?_
                    rotate_left
                    · intro w hSw; (try dsimp only at hSw); go_simp; try with_reducible rfl
                    go_simp
                    refine wpAnyH_take (i := 5) (v := ?_) rfl (by kernel_rfl) (by kernel_rfl) (by kernel_rfl) (fun _ _ _ h => h) (Or.inl ⟨by rfl, ?_⟩) (by assumption) ?_
                    rotate_left
                    · intro w hSw; (try dsimp only at hSw); go_simp; try with_reducible rfl
                    go_simp
                    refine wpAnyH_take (i := 6) (v := ?_) rfl (by kernel_rfl) (by kernel_rfl) (by kernel_rfl) (fun _ _ _ h => h) (Or.inl ⟨by rfl, ?_⟩) (by assumption) ?_
                    rotate_left
                    · intro w hSw; (try dsimp only at hSw); go_simp; try with_reducible rfl
                    go_simp
                    refine wpAnyH_take (i := 7) (v := ?_) rfl (by kernel_rfl) (by kernel_rfl) (by kernel_rfl) (fun _ _ _ h => h) (Or.inl ⟨by rfl, ?_⟩) (by assumption) ?_
                    rotate_left
                    · intro w hSw; (try dsimp only at hSw); go_simp; try with_reducible rfl
                    go_simp
                    refine wpAnyH_take (i := 8) (v := ?_) rfl (by kernel_rfl) (by kernel_rfl) (by kernel_rfl) (fun _ _ _ h => h) (Or.inl ⟨by rfl, ?_⟩) (by assumption) ?_
                    rotate_left
                    · intro w hSw; (try dsimp only at hSw); go_simp; try with_reducible rfl
                    go_simp
                    refine wpAnyH_take (i := 9) (v := ?_) rfl (by kernel_rfl) (by kernel_rfl) (by kernel_rfl) (fun _ _ _ h => h) (Or.inl ⟨by rfl, ?_⟩) (by assumption) ?_
                    rotate_left
                    · intro w hSw; (try dsimp only at hSw); go_simp; try with_reducible rfl
                    go_simp
                    refine wpAnyH_take (i := 10) (v := ?_) rfl (by kernel_rfl) (by kernel_rfl) (by kernel_rfl) (fun _ _ _ h => h) (Or.inl ⟨by rfl, ?_⟩) (by assumption) ?_
                    rotate_left
                    · intro w hSw; (try dsimp only at hSw); go_simp; try with_reducible rfl
                    go_simp
                    refine wpAnyH_take (i := 11) (v := ?_) rfl (by kernel_rfl) (by kernel_rfl) (by kernel_rfl) (fun _ _ _ h => h) (Or.inl ⟨by rfl, ?_⟩) (by assumption) ?_
                    rotate_left
                    · intro w hSw; (try dsimp only at hSw); go_simp; try with_reducible rfl
                    go_simp
                    refine wpAnyH_take (i := 12) (v := ?_) rfl (by kernel_rfl) (by kernel_rfl) (by kernel_rfl) (fun _ _ _ h => h) (Or.inl ⟨by rfl, ?_⟩) (by assumption) ?_
                    rotate_left
                    · intro w hSw; (try dsimp only at hSw); go_simp; try with_reducible rfl
                    go_simp
                    refine wpAnyH_take (i := 13) (v := ?_) rfl (by kernel_rfl) (by kernel_rfl) (by kernel_rfl) (fun _ _ _ h => h) (Or.inl ⟨by rfl, ?_⟩) (by assumption) ?_
                    rotate_left
                    · intro w hSw; (try dsimp only at hSw); go_simp; try with_reducible rfl
                    go_simp
                    refine wpAnyH_take (i := 14) (v := ?_) rfl (by kernel_rfl) (by kernel_rfl) (by kernel_rfl) (fun _ _ _ h => h) (Or.inl ⟨by rfl, ?_⟩) (by assumption) ?_
                    rotate_left
                    · intro w hSw; (try dsimp only at hSw); go_simp; try with_reducible rfl
                    go_simp
                    refine wpAnyH_take (i := 15) (v := ?_) rfl (by kernel_rfl) (by kernel_rfl) (by kernel_rfl) (fun _ _ _ h => h) (Or.inl ⟨by rfl, ?_⟩) (by assumption) ?_
                    rotate_left
                    · intro w hSw; (try dsimp only at hSw); go_simp; try with_reducible rfl
                    go_simp
                    refine wpAnyH_take (i := 16) (v := ?_) rfl (by kernel_rfl) (by kernel_rfl) (by kernel_rfl) (fun _ _ _ h => h) (Or.inl ⟨by rfl, ?_⟩) (by assumption) ?_
                    rotate_left
                    · intro w hSw; (try dsimp only at hSw); go_simp; try with_reducible rfl
                    go_simp
                    refine wpAnyH_take (i := 17) (v := ?_) rfl (by kernel_rfl) (by kernel_rfl) (by kernel_rfl) (fun _ _ _ h => h) (Or.inl ⟨by rfl, ?_⟩) (by assumption) ?_
                    rotate_left
                    · intro w hSw; (try dsimp only at hSw); go_simp; try with_reducible rfl
                    go_simp
                    refine wpAnyH_take (i := 18) (v := ?_) rfl (by kernel_rfl) (by kernel_rfl) (by kernel_rfl) (fun _ _ _ h => h) (Or.inl ⟨by rfl, ?_⟩) (by assumption) ?_
                    rotate_left
                    · intro w hSw; (try dsimp only at hSw); go_simp; try with_reducible rfl
                    go_simp
                    refine wpAnyH_take (i := 19) (v := ?_) rfl (by kernel_rfl) (by kernel_rfl) (by kernel_rfl) (fun _ _ _ h => h) (Or.inl ⟨by rfl, ?_⟩) (by assumption) ?_
                    rotate_left
                    · intro w hSw; (try dsimp only at hSw); go_simp; try with_reducible rfl
                    go_simp
                    refine wpAnyH_take (i := 20) (v := ?_) rfl (by kernel_rfl) (by kernel_rfl) (by kernel_rfl) (fun _ _ _ h => h) (Or.inl ⟨by rfl, ?_⟩) (by assumption) ?_
                    rotate_left
                    · intro w hSw; (try dsimp only at hSw); go_simp; try with_reducible rfl
                    go_simp
                    refine wpAnyH_take (i := 21) (v := ?_) rfl (by kernel_rfl) (by kernel_rfl) (by kernel_rfl) (fun _ _ _ h => h) (Or.inl ⟨by rfl, ?_⟩) (by assumption) ?_
                    rotate_left
                    · intro w hSw; (try dsimp only at hSw); go_simp; try with_reducible rfl
                    go_simp
                    refine wpAnyH_take (i := 22) (v := ?_) rfl (by kernel_rfl) (by kernel_rfl) (by kernel_rfl) (fun _ _ _ h => h) (Or.inl ⟨by rfl, ?_⟩) (by assumption) ?_
                    rotate_left
                    · intro w hSw; (try dsimp only at hSw); go_simp; try with_reducible rfl
                    go_simp
                    refine wpAnyH_take (i := 23) (v := ?_) rfl (by kernel_rfl) (by kernel_rfl) (by kernel_rfl) (fun _ _ _ h => h) (Or.inl ⟨by rfl, ?_⟩) (by assumption) ?_
                    rotate_left
                    · intro w hSw; (try dsimp only at hSw); go_simp; try with_reducible rfl
                    go_simp
                    refine wpAnyH_take (i := 24) (v := ?_) rfl (by kernel_rfl) (by kernel_rfl) (by kernel_rfl) (fun _ _ _ h => h) (Or.inl ⟨by rfl, ?_⟩) (by assumption) ?_
                    rotate_left
                    · intro w hSw; (try dsimp only at hSw); go_simp; try with_reducible rfl
                    go_simp
                    refine wpAnyH_take (i := 25) (v := ?_) rfl (by kernel_rfl) (by kernel_rfl) (by kernel_rfl) (fun _ _ _ h => h) (Or.inl ⟨by rfl, ?_⟩) (by assumption) ?_
                    rotate_left
                    · intro w hSw; (try dsimp only at hSw); go_simp; try with_reducible rfl
                    go_simp
                    refine wpAnyH_take (i := 26) (v := ?_) rfl (by kernel_rfl) (by kernel_rfl) (by kernel_rfl) (fun _ _ _ h => h) (Or.inl ⟨by rfl, ?_⟩) (by assumption) ?_
                    rotate_left
                    · intro w hSw; (try dsimp only at hSw); go_simp; try with_reducible rfl
                    go_simp
                    refine wpAnyH_take (i := 27) (v := ?_) rfl (by kernel_rfl) (by kernel_rfl) (by kernel_rfl) (fun _ _ _ h => h) (Or.inl ⟨by rfl, ?_⟩) (by assumption) ?_
                    rotate_left
                    · intro w hSw; (try dsimp only at hSw); go_simp; try with_reducible rfl
                    go_simp
                    refine wpAnyH_take (i := 28) (v := ?_) rfl (by kernel_rfl) (by kernel_rfl) (by kernel_rfl) (fun _ _ _ h => h) (Or.inl ⟨by rfl, ?_⟩) (by assumption) ?_
                    rotate_left
                    · intro w hSw; (try dsimp only at hSw); go_simp; try with_reducible rfl
                    go_simp
                    refine wpAnyH_take (i := 29) (v := ?_) rfl (by kernel_rfl) (by kernel_rfl) (by kernel_rfl) (fun _ _ _ h => h) (Or.inl ⟨by rfl, ?_⟩) (by assumption) ?_
                    rotate_left
                    · intro w hSw; (try dsimp only at hSw); go_simp; try with_reducible rfl
                    go_simp
                    refine wpAnyH_take (i := 30) (v := ?_) rfl (by kernel_rfl) (by kernel_rfl) (by kernel_rfl) (fun _ _ _ h => h) (Or.inl ⟨by rfl, ?_⟩) (by assumption) ?_
                    rotate_left
                    · intro w hSw; (try dsimp only at hSw); go_simp; try with_reducible rfl
                    go_simp
                    refine wpAnyH_take (i := 31) (v := ?_) rfl (by kernel_rfl) (by kernel_rfl) (by kernel_rfl) (fun _ _ _ h => h) (Or.inl ⟨by rfl, ?_⟩) (by assumption) ?_
                    rotate_left
                    · intro w hSw; (try dsimp only at hSw); go_simp; try with_reducible rfl
                    go_simp
                    refine wpAnyH_take (i := 32) (v := ?_) rfl (by kernel_rfl) (by kernel_rfl) (by kernel_rfl) (fun _ _ _ h => h) (Or.inl ⟨by rfl, ?_⟩) (by assumption) ?_
                    rotate_left
                    · intro w hSw; (try dsimp only at hSw); go_simp; try with_reducible rfl
                    go_simp
                    refine wpAnyH_take (i := 33) (v := ?_) rfl (by kernel_rfl) (by kernel_rfl) (by kernel_rfl) (fun _ _ _ h => h) (Or.inl ⟨by rfl, ?_⟩) (by assumption) ?_
                    rotate_left
                    · intro w hSw; (try dsimp only at hSw); go_simp; try with_reducible rfl
                    go_simp
                    refine wpAnyH_take (i := 34) (v := ?_) rfl (by kernel_rfl) (by kernel_rfl) (by kernel_rfl) (fun _ _ _ h => h) (Or.inl ⟨by rfl, ?_⟩) (by assumption) ?_
                    rotate_left
                    · intro w hSw; (try dsimp only at hSw); go_simp; try with_reducible rfl
                    go_simp
                    refine wpAnyH_take (i := 35) (v := ?_) rfl (by kernel_rfl) (by kernel_rfl) (by kernel_rfl) (fun _ _ _ h => h) (Or.inl ⟨by rfl, ?_⟩) (by assumption) ?_
                    rotate_left
                    · intro w hSw; (try dsimp only at hSw); go_simp; try with_reducible rfl
                    go_simp
                    refine wpAnyH_take (i := 36) (v := ?_) rfl (by kernel_rfl) (by kernel_rfl) (by kernel_rfl) (fun _ _ _ h => h) (Or.inl ⟨by rfl, ?_⟩) (by assumption) ?_
                    rotate_left
                    · intro w hSw; (try dsimp only at hSw); go_simp; try with_reducible rfl
                    go_simp
                    refine wpAnyH_take (i := 37) (v := ?_) rfl (by kernel_rfl) (by kernel_rfl) (by kernel_rfl) (fun _ _ _ h => h) (Or.inl ⟨by rfl, ?_⟩) (by assumption) ?_
                    rotate_left
                    · intro w hSw; (try dsimp only at hSw); go_simp; try with_reducible rfl
                    go_simp
                    refine wpAnyH_take (i := 38) (v := ?_) rfl (by kernel_rfl) (by kernel_rfl) (by kernel_rfl) (fun _ _ _ h => h) (Or.inl ⟨by rfl, ?_⟩) (by assumption) ?_
                    rotate_left
                    · intro w hSw; (try dsimp only at hSw); go_simp; try with_reducible rfl
                    go_simp
                    refine wpAnyH_take (i := 39) (v := ?_) rfl (by kernel_rfl) (by kernel_rfl) (by kernel_rfl) (fun _ _ _ h => h) (Or.inl ⟨by rfl, ?_⟩) (by assumption) ?_
                    rotate_left
                    · intro w hSw; (try dsimp only at hSw); go_simp; try with_reducible rfl
                    go_simp
                    refine wpAnyH_take (i := 40) (v := ?_) rfl (by kernel_rfl) (by kernel_rfl) (by kernel_rfl) (fun _ _ _ h => h) (Or.inl ⟨by rfl, ?_⟩) (by assumption) ?_
                    rotate_left
                    · intro w hSw; (try dsimp only at hSw); go_simp; try with_reducible rfl
                    go_simp
                    refine wpAnyH_take (i := 41) (v := ?_) rfl (by kernel_rfl) (by kernel_rfl) (by kernel_rfl) (fun _ _ _ h => h) (Or.inl ⟨by rfl, ?_⟩) (by assumption) ?_
                    rotate_left
                    · intro w hSw; (try dsimp only at hSw); go_simp; try with_reducible rfl
                    go_simp
                    refine wpAnyH_take (i := 42) (v := ?_) rfl (by kernel_rfl) (by kernel_rfl) (by kernel_rfl) (fun _ _ _ h => h) (Or.inl ⟨by rfl, ?_⟩) (by assumption) ?_
                    rotate_left
                    · intro w hSw; (try dsimp only at hSw); go_simp; try with_reducible rfl
                    go_simp
                    refine wpAnyH_take (i := 43) (v := ?_) rfl (by kernel_rfl) (by kernel_rfl) (by kernel_rfl) (fun _ _ _ h => h) (Or.inl ⟨by rfl, ?_⟩) (by assumption) ?_
                    rotate_left
                    · intro w hSw; (try dsimp only at hSw); go_simp; try with_reducible rfl
                    go_simp
                    refine wpAnyH_take (i := 44) (v := ?_) rfl (by kernel_rfl) (by kernel_rfl) (by kernel_rfl) (fun _ _ _ h => h) (Or.inl ⟨by rfl, ?_⟩) (by assumption) ?_
                    rotate_left
                    · intro w hSw; (try dsimp only at hSw); go_simp; try with_reducible rfl
                    go_simp
                    refine wpAnyH_take (i := 45) (v := ?_) rfl (by kernel_rfl) (by kernel_rfl) (by kernel_rfl) (fun _ _ _ h => h) (Or.inl ⟨by rfl, ?_⟩) (by assumption) ?_
                    rotate_left
                    · intro w hSw; (try dsimp only at hSw); go_simp; try with_reducible rfl
                    go_simp
                    refine wpAnyH_take (i := 46) (v := ?_) rfl (by kernel_rfl) (by kernel_rfl) (by kernel_rfl) (fun _ _ _ h => h) (Or.inl ⟨by rfl, ?_⟩) (by assumption) ?_
                    rotate_left
                    · intro w hSw; (try dsimp only at hSw); go_simp; try with_reducible rfl
                    go_simp
                    refine wpAnyH_take (i := 47) (v := ?_) rfl (by kernel_rfl) (by kernel_rfl) (by kernel_rfl) (fun _ _ _ h => h) (Or.inl ⟨by rfl, ?_⟩) (by assumption) ?_
                    rotate_left
                    · intro w hSw; (try dsimp only at hSw); go_simp; try with_reducible rfl
                    go_simp
                    refine wpAnyH_done (by kernel_rfl) ?_ _

                    have HJF : Hid (OnJ w _ p A1 al g (.slice A8 T c8) T tp had' (j + 1)) := HJ9.out.below hHeld.1
                    clear hHeld HJ9
                    go_wp2_with fail
                    go_roundw
                    case rel => exact ⟨j + 1, T, tp, _, had', HJN.out, ⟨A8, c8, rfl⟩, rfl, rfl, by go_num, htm7, HOF.out, HAF.out, HJF.out⟩
                    case measure =>
                      have := HJN.out
                      simp [intOf]; omega
                  · have hTLI : ¬ (T : Int) = (L : Int) := by omega
                    have hTc : (T : Int) ≤ (c1 : Int) := by omega
                    have hTLB : ((T : Int) == (L : Int)) = false := beq_false_of_ne hTLI
                    obtain rfl : o1 = 0 := by rw [ho1]; exact if_neg hTL
                    have HOF : Hid (0 < j + 1 → (0 : Int) = if T = L then 1 else 0) := fun _ => (if_neg hTL).symm
                    clear ho1 hT
                    obtain ⟨sx, hsx⟩ : ∃ x, strOf (al.take T) = x := ⟨_, rfl⟩
                    have HSX := Lib.hid hsx
                    have HS33 : Hid (∀ W, Below wr.heap.size wr W → (fun W : World => Below wr.heap.size wr W ∧ (convert 30 9 (.slice A8 T c8)).run Try.prog W = .ok (.string sx) W ∧ (convert 30 9 (.slice A1 T c1)).run Try.prog W = .ok (.string sx) W) W) := fun W hW => by
                      have h1 := (HI9.out.si.below hW).gotStr
                      have h2 := (HI9.out.si.below hW).allStr T (by have := HLE.out; omega) c1
                      rw [HSX.out] at h1 h2
                      exact ⟨hW, h1, h2⟩
                    clear hsx HI9
                    go_upto_region 33 with (fail)
                    refine wp_region_held_drew (S := (fun W : World => Below wr.heap.size wr W ∧ (convert 30 9 (.slice A8 T c8)).run Try.prog W = .ok (.string sx) W ∧ (convert 30 9 (.slice A1 T c1)).run Try.prog W = .ok (.string sx) W)) (by kernel_rfl) ?_ (fun hHeld => ?_)
                    · exact HS33.out _ ((Below.refl _ _).drew)
                    refine wpAnyH_take (i := 0) (v := ?_) rfl (by kernel_rfl) (by kernel_rfl) (by kernel_rfl) (fun _ _ _ h => h) (Or.inl ⟨by rfl, ?_⟩) (by assumption) ?_
                    rotate_left
                    · intro w hSw; (try dsimp only at hSw); go_simp; try with_reducible rfl
                    go_simp
                    refine wpAnyH_take (i := 1) (v := ?_) rfl (by kernel_rfl) (by kernel_rfl) (by kernel_rfl) (fun _ _ _ h => h) (Or.inl ⟨by rfl, ?_⟩) (by assumption) ?_
                    rotate_left
                    · intro w hSw; (try dsimp only at hSw); go_simp; try with_reducible rfl
                    go_simp
                    refine wpAnyH_take (i := 2) (v := ?_) rfl (by kernel_rfl) (by kernel_rfl) (by kernel_rfl) (fun _ _ _ h => h) (Or.inl ⟨by rfl, ?_⟩) (by assumption) ?_
                    rotate_left
                    · intro w hSw; (try dsimp only at hSw); go_simp; try with_reducible rfl
                    go_simp
                    refine wpAnyH_take (i := 3) (v := ?_) rfl (by kernel_rfl) (by kernel_rfl) (by kernel_rfl) (fun _ _ _ h => h) (Or.inl ⟨by rfl, ?_⟩) (by assumption) ?_
                    rotate_left
                    · intro w hSw; (try dsimp only at hSw); go_simp; try with_reducible rfl
                    go_simp
                    refine wpAnyH_take (i := 4) (v := ?_) rfl (by kernel_rfl) (by kernel_rfl) (by kernel_rfl) (fun _ _ _ h => h) (Or.inl ⟨by rfl, ?_⟩) (by assumption) ?_
                    rotate_left
                    · intro w hSw; (try dsimp only at hSw); go_simp; try with_reducible rfl
                    go_simp
                    refine wpAnyH_take (i := 5) (v := ?_) rfl (by kernel_rfl) (by kernel_rfl) (by kernel_rfl) (fun _ _ _ h => h) (Or.inl ⟨by rfl, ?_⟩) (by assumption) ?_
                    rotate_left
                    · intro w hSw; (try dsimp only at hSw); go_simp; try with_reducible rfl
                    go_simp
                    refine wpAnyH_take (i := 6) (v := ?_) rfl (by kernel_rfl) (by kernel_rfl) (by kernel_rfl) (fun _ _ _ h => h) (Or.inl ⟨by rfl, ?_⟩) (by assumption) ?_
                    rotate_left
                    · intro w hSw; (try dsimp only at hSw); go_simp; try with_reducible rfl
                    go_simp
                    refine wpAnyH_take (i := 7) (v := ?_) rfl (by kernel_rfl) (by kernel_rfl) (by kernel_rfl) (fun _ _ _ h => h) (Or.inl ⟨by rfl, ?_⟩) (by assumption) ?_
                    rotate_left
                    · intro w hSw; (try dsimp only at hSw); go_simp; try with_reducible rfl
                    go_simp
                    refine wpAnyH_take (i := 8) (v := ?_) rfl (by kernel_rfl) (by kernel_rfl) (by kernel_rfl) (fun _ _ _ h => h) (Or.inl ⟨by rfl, ?_⟩) (by assumption) ?_
                    rotate_left
                    · intro w hSw; (try dsimp only at hSw); go_simp; try with_reducible rfl
                    go_simp
                    refine wpAnyH_take (i := 9) (v := ?_) rfl (by kernel_rfl) (by kernel_rfl) (by kernel_rfl) (fun _ _ _ h => h) (Or.inl ⟨by rfl, ?_⟩) (by assumption) ?_
                    rotate_left
                    · intro w hSw; (try dsimp only at hSw); go_simp; try with_reducible rfl
                    go_simp
                    refine wpAnyH_take (i := 10) (v := ?_) rfl (by kernel_rfl) (by kernel_rfl) (by kernel_rfl) (fun _ _ _ h => h) (Or.inl ⟨by rfl, ?_⟩) (by assumption) ?_
                    rotate_left
                    · intro w hSw; (try dsimp only at hSw); go_simp; try with_reducible rfl
                    go_simp
                    refine wpAnyH_take (i := 11) (v := ?_) rfl (by kernel_rfl) (by kernel_rfl) (by kernel_rfl) (fun _ _ _ h => h) (Or.inl ⟨by rfl, ?_⟩) (by assumption) ?_
                    rotate_left
                    · intro w hSw; (try dsimp only at hSw); go_simp; try with_reducible rfl
                    go_simp
                    refine wpAnyH_take (i := 12) (v := ?_) rfl (by kernel_rfl) (by kernel_rfl) (by kernel_rfl) (fun _ _ _ h => h) (Or.inl ⟨by rfl, ?_⟩) (by assumption) ?_
                    rotate_left
                    · intro w hSw; (try dsimp only at hSw); go_simp; try with_reducible rfl
                    go_simp
                    refine wpAnyH_take (i := 13) (v := ?_) rfl (by kernel_rfl) (by kernel_rfl) (by kernel_rfl) (fun _ _ _ h => h) (Or.inl ⟨by rfl, ?_⟩) (by assumption) ?_
                    rotate_left
                    · intro w hSw; (try dsimp only at hSw); go_simp; try with_reducible rfl
                    go_simp
                    refine wpAnyH_take (i := 14) (v := ?_) rfl (by kernel_rfl) (by kernel_rfl) (by kernel_rfl) (fun _ _ _ h => h) (Or.inl ⟨by rfl, ?_⟩) (by assumption) ?_
                    rotate_left
                    · intro w hSw; (try dsimp only at hSw); go_simp; try with_reducible rfl
                    go_simp
                    refine wpAnyH_take (i := 15) (v := ?_) rfl (by kernel_rfl) (by kernel_rfl) (by kernel_rfl) (fun _ _ _ h => h) (Or.inl ⟨by rfl, ?_⟩) (by assumption) ?_
                    rotate_left
                    · intro w hSw; (try dsimp only at hSw); go_simp; try with_reducible rfl
                    go_simp
                    refine wpAnyH_take (i := 16) (v := ?_) rfl (by kernel_rfl) (by kernel_rfl) (by kernel_rfl) (fun _ _ _ h => h) (Or.inl ⟨by rfl, ?_⟩) (by assumption) ?_
                    rotate_left
                    · intro w hSw; (try dsimp only at hSw); go_simp; try with_reducible rfl
                    go_simp
                    refine wpAnyH_take (i := 17) (v := ?_) rfl (by kernel_rfl) (by kernel_rfl) (by kernel_rfl) (fun _ _ _ h => h) (Or.inl ⟨by rfl, ?_⟩) (by assumption) ?_
                    rotate_left
                    · intro w hSw; (try dsimp only at hSw); go_simp; try with_reducible rfl
                    go_simp
                    refine wpAnyH_take (i := 18) (v := ?_) rfl (by kernel_rfl) (by kernel_rfl) (by kernel_rfl) (fun _ _ _ h => h) (Or.inl ⟨by rfl, ?_⟩) (by assumption) ?_
                    rotate_left
                    · intro w hSw; (try dsimp only at hSw); go_simp; try with_reducible rfl
                    go_simp
                    refine wpAnyH_take (i := 19) (v := ?_) rfl (by kernel_rfl) (by kernel_rfl) (by kernel_rfl) (fun _ _ _ h => h) (Or.inl ⟨by rfl, ?_⟩) (by assumption) ?_
                    rotate_left
                    · intro w hSw; (try dsimp only at hSw); go_simp; try with_reducible rfl
                    go_simp
                    refine wpAnyH_take (i := 20) (v := ?_) rfl (by kernel_rfl) (by kernel_rfl) (by kernel_rfl) (fun _ _ _ h => h) (Or.inl ⟨by rfl, ?_⟩) (by assumption) ?_
                    rotate_left
                    · intro w hSw; (try dsimp only at hSw); go_simp; try with_reducible rfl
                    go_simp
                    refine wpAnyH_take (i := 21) (v := ?_) rfl (by kernel_rfl) (by kernel_rfl) (by kernel_rfl) (fun _ _ _ h => h) (Or.inl ⟨by rfl, ?_⟩) (by assumption) ?_
                    rotate_left
                    · intro w hSw; (try dsimp only at hSw); go_simp; try with_reducible rfl
                    go_simp
                    refine wpAnyH_take (i := 22) (v := ?_) rfl (by kernel_rfl) (by kernel_rfl) (by kernel_rfl) (fun _ _ _ h => h) (Or.inl ⟨by rfl, ?_⟩) (by assumption) ?_
                    rotate_left
                    · intro w hSw; (try dsimp only at hSw); go_simp; try with_reducible rfl
                    go_simp
                    refine wpAnyH_take (i := 23) (v := ?_) rfl (by kernel_rfl) (by kernel_rfl) (by kernel_rfl) (fun _ _ _ h => h) (Or.inl ⟨by rfl, ?_⟩) (by assumption) ?_
                    rotate_left
                    · intro w hSw; (try dsimp only at hSw); go_simp; try with_reducible rfl
                    go_simp
                    refine wpAnyH_take (i := 24) (v := ?_) rfl (by kernel_rfl) (by kernel_rfl) (by kernel_rfl) (fun _ _ _ h => h) (Or.inl ⟨by rfl, ?_⟩) (by assumption) ?_
                    rotate_left
                    · intro w hSw; (try dsimp only at hSw); go_simp; try with_reducible rfl
                    go_simp
                    refine wpAnyH_take (i := 25) (v := ?_) rfl (by kernel_rfl) (by kernel_rfl) (by kernel_rfl) (fun _ _ _ h => h) (Or.inl ⟨by rfl, ?_⟩) (by assumption) ?_
                    rotate_left
                    · intro w hSw; (try dsimp only at hSw); go_simp; try with_reducible rfl
                    go_simp
                    refine wpAnyH_take (i := 26) (v := ?_) rfl (by kernel_rfl) (by kernel_rfl) (by kernel_rfl) (fun _ _ _ h => h) (Or.inl ⟨by rfl, ?_⟩) (by assumption) ?_
                    rotate_left
                    · intro w hSw; (try dsimp only at hSw); go_simp; try with_reducible rfl
                    go_simp
                    refine wpAnyH_take (i := 27) (v := ?_) rfl (by kernel_rfl) (by kernel_rfl) (by kernel_rfl) (fun _ _ _ h => h) (Or.inl ⟨by rfl, ?_⟩) (by assumption) ?_
                    rotate_left
                    · intro w hSw; (try dsimp only at hSw); go_simp; try with_reducible rfl
                    go_simp
                    refine wpAnyH_take (i := 28) (v := ?_) rfl (by kernel_rfl) (by kernel_rfl) (by kernel_rfl) (fun _ _ _ h => h) (Or.inl ⟨by rfl, ?_⟩) (by assumption) ?_
                    rotate_left
                    · intro w hSw; (try dsimp only at hSw); go_simp; try with_reducible rfl
                    go_simp
                    refine wpAnyH_take (i := 29) (v := ?_) rfl (by kernel_rfl) (by kernel_rfl) (by kernel_rfl) (fun _ _ _ h => h) (Or.inl ⟨by rfl, ?_⟩) (by assumption) ?_
                    rotate_left
                    · intro w hSw; (try dsimp only at hSw); go_simp; try with_reducible rfl
                    go_simp
                    refine wpAnyH_take (i := 30) (v := ?_) rfl (by kernel_rfl) (by kernel_rfl) (by kernel_rfl) (fun _ _ _ h => h) (Or.inl ⟨by rfl, ?_⟩) (by assumption) ?_
                    rotate_left
                    · intro w hSw; (try dsimp only at hSw); go_simp; try with_reducible rfl
                    go_simp
                    refine wpAnyH_take (i := 31) (v := ?_) rfl (by kernel_rfl) (by kernel_rfl) (by kernel_rfl) (fun _ _ _ h => h) (Or.inl ⟨by rfl, ?_⟩) (by assumption) ?_
                    rotate_left
                    · intro w hSw; (try dsimp only at hSw); go_simp; try with_reducible rfl
                    go_simp
                    refine wpAnyH_take (i := 32) (v := ?_) rfl (by kernel_rfl) (by kernel_rfl) (by kernel_rfl) (fun _ _ _ h => h) (Or.inl ⟨by rfl, ?_⟩) (by assumption) ?_
                    rotate_left
                    · intro w hSw; (try dsimp only at hSw); go_simp; try with_reducible rfl
                    go_simp
                    refine wpAnyH_take (i := 33) (v := ?_) rfl (by kernel_rfl) (by kernel_rfl) (by kernel_rfl) (fun _ _ _ h => h) (Or.inl ⟨by rfl, ?_⟩) (by assumption) ?_
                    rotate_left
                    · intro w hSw; (try dsimp only at hSw); go_simp; try with_reducible rfl
                    go_simp
                    refine wpAnyH_take (i := 34) (v := ?_) rfl (by kernel_rfl) (by kernel_rfl) (by kernel_rfl) (fun _ _ _ h => h) (Or.inl ⟨by rfl, ?_⟩) (by assumption) ?_
                    rotate_left
                    · intro w hSw; (try dsimp only at hSw); go_simp; try with_reducible rfl
                    go_simp
                    refine wpAnyH_take (i := 35) (v := ?_) rfl (by kernel_rfl) (by kernel_rfl) (by kernel_rfl) (fun _ _ _ h => h) (Or.inl ⟨by rfl, ?_⟩) (by assumption) ?_
                    rotate_left
                    · intro w hSw; (try dsimp only at hSw); go_simp; try with_reducible rfl
                    go_simp
                    refine wpAnyH_take (i := 36) (v := ?_) rfl (by kernel_rfl) (by kernel_rfl) (by kernel_rfl) (fun _ _ _ h => h) (Or.inl ⟨by rfl, ?_⟩) (by assumption) ?_
                    rotate_left
                    · intro w hSw; (try dsimp only at hSw); go_simp; try with_reducible rfl
                    go_simp
                    refine wpAnyH_take (i := 37) (v := ?_) rfl (by kernel_rfl) (by kernel_rfl) (by kernel_rfl) (fun _ _ _ h => h) (Or.inl ⟨by rfl, ?_⟩) (by assumption) ?_
                    rotate_left
                    · intro w hSw; (try dsimp only at hSw); go_simp; try with_reducible rfl
                    go_simp
                    refine wpAnyH_take (i := 38) (v := ?_) rfl (by kernel_rfl) (by kernel_rfl) (by kernel_rfl) (fun _ _ _ h => h) (Or.inl ⟨by rfl, ?_⟩) (by assumption) ?_
                    rotate_left
                    · intro w hSw; (try dsimp only at hSw); go_simp; try with_reducible rfl
                    go_simp
                    refine wpAnyH_take (i := 39) (v := ?_) rfl (by kernel_rfl) (by kernel_rfl) (by kernel_rfl) (fun _ _ _ h => h) (Or.inl ⟨by rfl, ?_⟩) (by assumption) ?_
                    rotate_left
                    · intro w hSw; (try dsimp only at hSw); go_simp; try with_reducible rfl
                    go_simp
                    refine wpAnyH_take (i := 40) (v := ?_) rfl (by kernel_rfl) (by kernel_rfl) (by kernel_rfl) (fun _ _ _ h => h) (Or.inl ⟨by rfl, ?_⟩) (by assumption) ?_
                    rotate_left
                    · intro w hSw; (try dsimp only at hSw); go_simp; try with_reducible rfl
                    go_simp
                    refine wpAnyH_take (i := 41) (v := ?_) rfl (by kernel_rfl) (by kernel_rfl) (by kernel_rfl) (fun _ _ _ h => h) (Or.inl ⟨by rfl, ?_⟩) (by assumption) ?_
                    rotate_left
                    · intro w hSw; (try dsimp only at hSw); go_simp; try with_reducible rfl
                    go_simp
                    refine wpAnyH_take (i := 42) (v := ?_) rfl (by kernel_rfl) (by kernel_rfl) (by kernel_rfl) (fun _ _ _ h => h) (Or.inl ⟨by rfl, ?_⟩) (by assumption) ?_
                    rotate_left
                    · intro w hSw; (try dsimp only at hSw); go_simp; try with_reducible rfl
                    go_simp
                    refine wpAnyH_take (i := 43) (v := ?_) rfl (by kernel_rfl) (by kernel_rfl) (by kernel_rfl) (fun _ _ _ h => h) (Or.inl ⟨by rfl, ?_⟩) (by assumption) ?_
                    rotate_left
                    · intro w hSw; (try dsimp only at hSw); go_simp; try with_reducible rfl
                    go_simp
                    refine wpAnyH_take (i := 44) (v := ?_) rfl (by kernel_rfl) (by kernel_rfl) (by kernel_rfl) (fun _ _ _ h => h) (Or.inl ⟨by rfl, ?_⟩) (by assumption) ?_
                    rotate_left
                    · intro w hSw; (try dsimp only at hSw); go_simp; try with_reducible rfl
                    go_simp
                    refine wpAnyH_take (i := 45) (v := ?_) rfl (by kernel_rfl) (by kernel_rfl) (by kernel_rfl) (fun _ _ _ h => h) (Or.inl ⟨by rfl, ?_⟩) (by assumption) ?_
                    rotate_left
                    · intro w hSw; (try dsimp only at hSw); go_simp; try with_reducible rfl
                    go_simp
                    refine wpAnyH_take (i := 46) (v := ?_) rfl (by kernel_rfl) (by kernel_rfl) (by kernel_rfl) (fun _ _ _ h => h) (Or.inl ⟨by rfl, ?_⟩) (by assumption) ?_
                    rotate_left
                    · intro w hSw; (try dsimp only at hSw); go_simp; try with_reducible rfl
                    go_simp
                    refine wpAnyH_take (i := 47) (v := ?_) rfl (by kernel_rfl) (by kernel_rfl) (by kernel_rfl) (fun _ _ _ h => h) (Or.inl ⟨by rfl, ?_⟩) (by assumption) ?_
                    rotate_left
                    · intro w hSw; (try dsimp only at hSw); go_simp; try with_reducible rfl
                    go_simp
                    refine wpAnyH_done (by kernel_rfl) ?_ _

                    have HJF : Hid (OnJ w _ p A1 al g (.slice A8 T c8) T tp had' (j + 1)) := HJ9.out.below hHeld.1
                    clear hHeld HJ9
                    go_wp2_with fail
                    go_roundw
                    case rel => exact ⟨j + 1, T, tp, _, had', HJN.out, ⟨A8, c8, rfl⟩, rfl, rfl, by go_num, htm7, HOF.out, HAF.out, HJF.out⟩
                    case measure =>
                      have := HJN.out
                      simp [intOf]; omega
end Go.Proofs.Ytcglhoochmfmiaa.Re
