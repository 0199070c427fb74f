/- RecvFresh: the walk (printed by gen/recvo.py). Conditions: the calls are an argument's. -/
import Derived.Test.YtcglhoochmfmiaaJZn
set_option linter.unusedSimpArgs false
set_option linter.unusedVariables false

namespace Go.Proofs.Ytcglhoochmfmiaa.Re
open Go Go.RowKit Go.Proofs.Ytcglhoochmfmiaa Go.Proofs.Ytcglhoochmfmiaa.Sp Go.Proofs.Ytcglhoochmfmiaa.Se Go.Maps Go.Proofs.Ytcglhoochmfmiaa.Rw

set_option maxRecDepth 100000 in
set_option maxHeartbeats 16000000 in
theorem fresh_walk (A : Option Addr) (N cap : Nat) (rs : List Rw.Rc) (w : World) (hr : Rw.CallsIn w A cap N rs) (hN : N * 64 ≤ 140737488351232) :
    Calls Try.prog 9 #[.slice A N cap] w fun e w' => e = .returned (.bool true) ∧ Below w.heap.size w w' := by
  have HRS := Lib.hid hr
  have hnI : (N : Int) ≤ 2199023255552 := by omega
  have hncI : (N : Int) ≤ (cap : Int) := by have := hr.le; omega
  have hNN : N ≤ 2199023255552 := by omega
  clear hr hN
  have HKN := Lib.hid known_any
  have HNEW := Lib.hid (new_hr w 3)
  obtain ⟨i0, hi, hz0, hz1, hz2⟩ := info_parts infoB
  have HIB := Lib.hid (And.intro hi (And.intro hz0 (And.intro hz1 hz2)))
  clear hi hz0 hz1 hz2
  go_enter Try.func9, Try.ntmps9
  go_wp2_with fail
  refine HNEW.out.mono ?_
  rintro e w2 ⟨p, F2, rfl, hh2, _⟩
  have HH2 := Lib.hid hh2
  clear hh2 HNEW
  go_wp2_with fail
  refine (HKN.out w2).mono ?_
  rintro e w3 ⟨rfl, hb3⟩
  have HJ3 : Hid (FJ w w3 p 0 0 0) := ⟨F2, newR, 0, HH2.out.below hb3, newR_FrS, rfl, rfl, Nat.zero_le _⟩
  clear hb3 HH2 HKN
  go_wp2_with fail
  go_loopw [4, 5, 6, 28] (fun v4 v5 v6 i wr => ∃ (j : Nat) (T t : Int), j ≤ N ∧ v4 = .int .i64 T ∧ v5 = .int .i64 T ∧ v6 = .int .i64 t ∧ i = .int .i64 (j : Int) ∧ Hid (FJ w wr p j T t)) (fun _ _ _ i _ => N - (intOf i).toNat)
  case atStart => exact ⟨0, 0, 0, Nat.zero_le _, rfl, rfl, rfl, rfl, HJ3.out⟩
  case round =>
    clear HJ3
    obtain ⟨j, T, t, hj, rfl, rfl, rfl, rfl, HK⟩ := hrel
    by_cases hlt : j < N
    case neg =>
      have hlti : ¬ (j : Int) < (N : Int) := by omega
      obtain ⟨F, s, n, hH, _⟩ := HK.out
      have HB := Lib.hid hH.low
      clear hH HK
      go_wp2_with fail
      go_ret
      exact ⟨rfl, HB.out⟩
    case pos =>
      have hlti : (j : Int) < (N : Int) := by omega
      have HJN : Hid (j + 1 ≤ N) := hlt
      obtain ⟨F, s, nw, hH, hS, hT, ht, hnw⟩ := HK.out
      obtain ⟨b, o, hA, hbw, hcs⟩ := HRS.out.rd (by omega)
      subst hA
      obtain ⟨x, hx⟩ : ∃ x, rs[j]? = some x := ⟨_, List.getElem?_eq_getElem (by rw [HRS.out.len]; omega)⟩
      obtain ⟨hxo, hxc⟩ := hcs j x hx
      have hlow : ∀ jj, wr.cell? ⟨b, o + j * 6 + jj, none⟩ = w.cell? ⟨b, o + j * 6 + jj, none⟩ := fun jj => hH.low.cell (p := ⟨b, o + j * 6 + jj, none⟩) hbw
      obtain ⟨x0, x1, x2, x3, x4, A5, x5, c5⟩ := x
      have z0 : wr.cell? ⟨b, o + j * 6, none⟩ = some (.int .i64 x0) := (hlow 0).trans (hxc 0 _ rfl)
      have z1 : wr.cell? ⟨b, o + j * 6 + 1, none⟩ = some (.int .i64 x1) := (hlow 1).trans (hxc 1 _ rfl)
      have z2 : wr.cell? ⟨b, o + j * 6 + 2, none⟩ = some (.int .i64 x2) := (hlow 2).trans (hxc 2 _ rfl)
      have z3 : wr.cell? ⟨b, o + j * 6 + 3, none⟩ = some (.int .i64 x3) := (hlow 3).trans (hxc 3 _ rfl)
      have z4 : wr.cell? ⟨b, o + j * 6 + 4, none⟩ = some (.bool x4) := (hlow 4).trans (hxc 4 _ rfl)
      have z5 : wr.cell? ⟨b, o + j * 6 + 5, none⟩ = some (.slice A5 x5.length c5) := (hlow 5).trans (hxc 5 _ rfl)
      have nz0 := World.new_ne wr _ z0
      have HI := Lib.hid hH
      have HS := Lib.hid hS
      have HNW := Lib.hid hnw
      have HTT := Lib.hid (And.intro hT ht)
      clear hH HK hcs hx hxo hxc hlow hS hnw hT ht
      go_upto_region 10 with (fail)
      obtain ⟨w1, hw1⟩ : ∃ x, wr.alloc (.cells #[.int .i64 x0, .int .i64 x1, .int .i64 x2, .int .i64 x3, .bool x4, .slice A5 x5.length c5] 74) = x := ⟨_, rfl⟩
      obtain ⟨g, hg⟩ : ∃ g, wr.heap.size = g := ⟨_, rfl⟩
      have HI1 : Hid (HR w w1 p nw F s) := by rw [← hw1]; exact HI.out.below ((Below.refl _ _).alloc (Nat.le_refl _) _)
      have HX1 : Hid (w1.heap[g]? = some (.cells #[.int .i64 x0, .int .i64 x1, .int .i64 x2, .int .i64 x3, .bool x4, .slice A5 x5.length c5] 74 (0, 0))) := by rw [← hw1, ← hg]; exact heap_alloc_new wr _
      have HGF : Hid (g ∉ F) := fun hm => by have := HI.out.lt g hm; omega
      rw [hw1, hg]
      clear hw1 hg nz0 z0 z1 z2 z3 z4 z5 HI
      have g1 := cell_slot (o := 1) HX1.out rfl
      have g2 := cell_slot (o := 2) HX1.out rfl
      obtain ⟨a, ha, ha9⟩ : ∃ z : Nat, x1 % 420 = (z : Int) ∧ z < 420 := ⟨(x1 % 420).toNat, by omega, by omega⟩
      obtain ⟨n, hn, hn9⟩ : ∃ z : Nat, x2 % 60 = (z : Int) ∧ z < 60 := ⟨(x2 % 60).toNat, by omega, by omega⟩
      obtain ⟨mo, hmo⟩ : ∃ z : Int, x3 % 90 = z := ⟨_, rfl⟩
      have HP1 := Lib.hid (fun W => pick_any x1 420 W (by decide) (by decide))
      have HP2 := Lib.hid (fun W => pick_any x2 60 W (by decide) (by decide))
      have HP3 := Lib.hid (fun W => pick_any x3 90 W (by decide) (by decide))
      rw [ha] at HP1
      rw [hn] at HP2
      rw [hmo] at HP3
      clear ha hn hmo
      go_wp2_with fail
      refine (HP1.out _).mono ?_; rintro e w' ⟨rfl, hw'⟩; subst hw'
      go_wp2_with fail
      refine (HP2.out _).mono ?_; rintro e w' ⟨rfl, hw'⟩; subst hw'
      have hd3 := HI1.out.read.2
      have hmk := fun W => run_make (P := Try.prog) W 30 5 i0 (.int .u8 0) Try.underlying30 HIB.out.1 HIB.out.2.1 .i64 .i64 (n : Int) (n : Int) (by omega) (by omega) (by rw [HIB.out.2.2.2]; omega) (by omega)
      simp only [HIB.out.2.2.1, Nat.mul_one, Int.toNat_natCast] at hmk
      have hzt : (madeCells (Value.int .u8 0).cells n).toList = bv (List.replicate n 0) := made0 n
      obtain ⟨zc, hzc⟩ : ∃ x, madeCells (Value.int .u8 0).cells n = x := ⟨_, rfl⟩
      rw [hzc] at hmk hzt
      obtain ⟨tl, htl⟩ : ∃ x, s.tl = x := ⟨_, rfl⟩
      have HTL := Lib.hid htl
      rw [htl] at hd3
      have HHZ := Lib.hid (HI1.out.below ((Below.refl _ _).alloc (Nat.le_refl _) (.cells zc 5)))
      have HXZ : Hid ((w1.alloc (.cells zc 5)).heap[g]? = some (.cells #[.int .i64 x0, .int .i64 x1, .int .i64 x2, .int .i64 x3, .bool x4, .slice A5 x5.length c5] 74 (0, 0))) := (Below.heap_alloc _ _ _ (lt_of_block HX1.out)).trans HX1.out
      have HRZ := Lib.hid (RowO.new HI1.out zc 5 hzt)
      have HP := Lib.hid (put_hr HHZ.out HS.out.ri.num (a : Int) false n (by rw [List.length_replicate]; have := HNW.out; omega) HRZ.out (by simp) (fun x hx => by have := List.eq_of_mem_replicate hx; omega) (by rw [List.length_replicate]; omega))
      rw [List.length_replicate] at HP
      clear hzc hzt HRZ htl g1 g2
      have hnI2 : (n : Int) < 60 := by omega
      have haI : (a : Int) < 420 := by omega
      have hwan : IntKind.i64.wrap ((a : Int) + (n : Int)) = (a : Int) + (n : Int) := IntWalk.i64_in _ (by omega)
      rcases HS.out.put a n ha9 hn9 with ⟨hc, s1, hps, hS1, htp, htk1, htl1⟩ | ⟨hc, hps⟩
      · by_cases hn0 : n = 0
        · as_aux_lemma =>
            subst hn0
            have hmk2 : ∀ W : World, (Instr.makeSlice 30 (.int .i64 0) (.int .i64 0)).run Try.prog W = .ok (.slice (some ⟨W.heap.size, 0, none⟩) 0 0) (W.alloc (.cells zc 5)) := hmk
            have hwa0 : IntKind.i64.wrap (a : Int) = (a : Int) := IntWalk.i64_in _ (by omega)
            have hcI0 : (a : Int) ≤ tl := by rw [← HTL.out]; omega
            rw [if_pos rfl] at htp
            have HT1 : Hid (s1.top = T) := by have := HTT.out.1; show s1.top = _; rw [htp, this]
            have HK1 : Hid (s1.tk = t) := htk1.trans HTT.out.2
            have HS1 := Lib.hid hS1
            have HFR : Hid (s1.top - s.top = T - T) := by rw [HTT.out.1]; show s1.top - T = _; rw [HT1.out]
            rw [hps] at HP
            clear hps htk1 htl1 hS1 htp hc
            have hT0 : 0 ≤ T ∧ T ≤ 478 := by have h1 := HS.out.ri.top; have h2 := HS.out.tp; have h3 := HTT.out.1; omega
            go_wp2_with fail
            refine HP.out.mono ?_
            rintro e w5 ⟨rfl, F5, hh5, hg5⟩
            rw [HFR.out]
            have HI5 := Lib.hid hh5
            have HX5 : Hid (w5.heap[g]? = some (.cells #[.int .i64 x0, .int .i64 x1, .int .i64 x2, .int .i64 x3, .bool x4, .slice A5 x5.length c5] 74 (0, 0))) := (hg5.1.block g (lt_of_block HXZ.out) HGF.out).trans HXZ.out
            have HGF5 : Hid (g ∉ F5) := fun hm => (hg5.2 g hm).elim HGF.out (fun h => by have := lt_of_block HXZ.out; omega)
            clear hh5 hg5 HP HHZ HXZ hmk hmk2 hd3 HI1 HX1
            have hwf : IntKind.i64.wrap (T + (T - T)) = T := by rw [IntWalk.i64_in _ (by omega)]; omega
            have HIN := Lib.hid (nS_in HS1.out.ri.num HS1.out.ri.ok mo)
            obtain ⟨m, hm⟩ : ∃ z : Nat, nS s1 mo = (z : Int) := ⟨(nS s1 mo).toNat, by have := HIN.out.1; omega⟩
            obtain ⟨tn, htn⟩ : ∃ z : Nat, s1.tk = (z : Int) := ⟨s1.tk.toNat, by have := HS1.out.ri.tk; omega⟩
            have HTK := Lib.hid (take_hr HI5.out HS1.out.ri.num (by have h1 := HS1.out.rd; have h2 := HS1.out.ri.tk; have h3 := HS1.out.tp; omega) mo m tn hm htn)
            have HMM := Lib.hid (And.intro hm htn)
            clear hm htn
            have g3 := cell_slot (o := 3) HX5.out rfl
            go_wp2_with fail
            refine (HP3.out _).mono ?_; rintro e w' ⟨rfl, hw'⟩; subst hw'
            clear g3
            go_wp2_with fail
            refine HTK.out.mono ?_
            rintro e w6 ⟨A6, c6, K6, F6, rfl, hh6, hg6, hc6, hro6, hK6⟩
            have HI6 := Lib.hid hh6
            have HX6 : Hid (w6.heap[g]? = some (.cells #[.int .i64 x0, .int .i64 x1, .int .i64 x2, .int .i64 x3, .bool x4, .slice A5 x5.length c5] 74 (0, 0))) := (hg6.1.block g (lt_of_block HX5.out) HGF5.out).trans HX5.out
            have HSm := Lib.hid (HS1.out.take mo m tn HMM.out.1 HMM.out.2 K6 hK6)
            obtain ⟨tm, htm⟩ : ∃ x, t + (m : Int) = x := ⟨_, rfl⟩
            have HTM : Hid ((takenS s1 (m : Int) K6).tk = tm) := by show s1.tk + (m : Int) = _; rw [HK1.out]; exact htm
            have HRM : Hid ((takenS s1 (m : Int) K6).rd = tm) := by have := HSm.out.2; rw [HK1.out, htm] at this; exact this
            have hov : overS (takenS s1 (m : Int) K6) = 0 := by
              unfold overS
              rw [HSm.out.1.br, HSm.out.1.en]
              rfl
            rw [hov]
            rw [if_neg (show ¬ (0 : Int) = 2 by decide)]
            clear hov
            have hmI : (m : Int) ≤ 1048576 := by have h1 := HIN.out; have h2 := HMM.out.1; omega
            have ht0 : 0 ≤ t ∧ t ≤ 478 := by have h1 := HS1.out.ri.tk; have h2 := HK1.out; have h3 := HS1.out.tp; omega
            have htm4 : tm ≤ 478 ∧ 0 ≤ tm := by have h1 := HSm.out.1.ri.tk; have h2 := HTM.out; have h3 := HSm.out.1.tp; omega
            have hwt : IntKind.i64.wrap (t + (m : Int)) = tm := by rw [← htm]; exact IntWalk.i64_in _ (by omega)
            have HDU := Lib.hid (due_hr HI6.out (by have := HRM.out; omega) (by show 1 ≤ s1.rm; rw [HS1.out.rm]; decide) (by have h1 := HRM.out; have h2 := HSm.out.1.rm; omega) (by have h1 := HSm.out.1.ri.top; omega))
            have HDE : Hid ((takenS s1 (m : Int) K6).rd + (takenS s1 (m : Int) K6).rm = tm + 400) := by show _ = _; rw [HRM.out, HSm.out.1.rm]
            have HDB : Hid (Cr.dueB (takenS s1 (m : Int) K6).rm (takenS s1 (m : Int) K6).rd (takenS s1 (m : Int) K6).tl = decide (200 ≤ tm + 400 - s1.tl)) := by
              show _ = _
              unfold Cr.dueB
              rw [HRM.out, HSm.out.1.rm]
              rfl
            rw [HDE.out, HDB.out] at HDU
            clear htm
            clear hh6 hg6 hc6 hro6 hK6 HTK HX5
            go_wp2_with fail
            refine HDU.out.mono ?_
            rintro e w8 ⟨rfl, q8, hw8⟩
            have HI8 : Hid (HR w w8 p (nw + 0) F6 (takenS s1 (m : Int) K6)) := by rw [hw8]; exact HI6.out.drewN q8
            have HX8 : Hid (w8.heap[g]? = some (.cells #[.int .i64 x0, .int .i64 x1, .int .i64 x2, .int .i64 x3, .bool x4, .slice A5 x5.length c5] 74 (0, 0))) := by rw [hw8]; exact HX6.out
            clear hw8 HDU HI6 HX6
            have hd3 : w8.cell? ⟨p, 3, none⟩ = some (.int .i64 s1.tl) := HI8.out.read.2
            have g4 := cell_slot (o := 4) HX8.out rfl
            obtain ⟨tl1, htl1⟩ : ∃ x, s1.tl = x := ⟨_, rfl⟩
            have htl2 : 0 ≤ tl1 ∧ tl1 ≤ 878 := by have h1 := HS1.out.ri.top; have h2 := HS1.out.tl; have h3 := HK1.out; omega
            have hw4 : IntKind.i64.wrap (tm + 400 - tl1) = tm + 400 - tl1 := IntWalk.i64_in _ (by omega)
            have hw5 : IntKind.i64.wrap (tm + 400) = tm + 400 := IntWalk.i64_in _ (by omega)
            rw [htl1] at hd3 ⊢
            clear htl1
            obtain ⟨db, hdb⟩ : ∃ x, decide (200 ≤ tm + 400 - tl1) = x := ⟨_, rfl⟩
            rw [hdb]
            cases x4
            · skip
              have HSF : Hid (FrS (takenS s1 (m : Int) K6) ∧ (takenS s1 (m : Int) K6).top = T ∧ (takenS s1 (m : Int) K6).tk = tm ∧ (takenS s1 (m : Int) K6).rd = tm) := ⟨HSm.out.1, HT1.out, HTM.out, HRM.out⟩
              have HTO := Lib.hid (top_hr HI8.out)
              have HRE := Lib.hid (rest_hr HI8.out (by have h1 := HSF.out.1.ri.num.top; exact h1) (by have h1 := HSF.out.1.ri.num.tk; have h2 := HSF.out.1.ri.num.top; omega))
              rw [HSF.out.2.1, HSF.out.2.2.1] at HRE
              rw [HSF.out.2.1] at HTO
              have hd2 := HI8.out.read.1
              rw [HSF.out.2.2.2] at hd2
              have hwr : IntKind.i64.wrap (T - tm) = T - tm := IntWalk.i64_in _ (by have h1 := HSF.out.1.tp; have h2 := HSF.out.1.ri.tk; have h3 := HSF.out.2.1; have h4 := HSF.out.2.2.1; omega)
              go_wp2_with fail
              refine HTO.out.mono ?_
              rintro e w' ⟨rfl, hw'⟩
              have hw' := hw'.symm
              subst hw'
              go_wp2_with fail
              refine HRE.out.mono ?_
              rintro e wf ⟨rfl, qf, hwf⟩
              have HJF : Hid (FJ w wf p (j + 1) T tm) := ⟨_, _, _, by rw [hwf]; exact HI8.out.drewN qf, HSF.out.1, HSF.out.2.1, HSF.out.2.2.1, by have := HNW.out; omega⟩
              clear hwf HTO HRE hd2
              go_wp2_with fail
              go_roundw
              case rel => exact ⟨j + 1, T, tm, HJN.out, rfl, rfl, rfl, by go_num, HJF.out⟩
              case measure =>
                have := HJN.out
                simp [intOf]; omega
            · skip
              have HTE := Lib.hid (tell_hr HI8.out (by rw [HRM.out]; omega) (by rw [HSm.out.1.rm]; decide) (by rw [HRM.out, HSm.out.1.rm]; omega))
              rw [HSm.out.1.tell.2, HTM.out] at HTE
              go_wp2_with fail
              refine HTE.out.mono ?_
              rintro e w9 ⟨rfl, F9, hh9, hg9⟩
              have HI9 := Lib.hid hh9
              have HSF : Hid (FrS (toldS (takenS s1 (m : Int) K6)) ∧ (toldS (takenS s1 (m : Int) K6)).top = T ∧ (toldS (takenS s1 (m : Int) K6)).tk = tm ∧ (toldS (takenS s1 (m : Int) K6)).rd = tm) := ⟨HSm.out.1.tell.1, HT1.out, HTM.out, HRM.out⟩
              clear hh9 hg9 HTE HI8
              have HTO := Lib.hid (top_hr HI9.out)
              have HRE := Lib.hid (rest_hr HI9.out (by have h1 := HSF.out.1.ri.num.top; exact h1) (by have h1 := HSF.out.1.ri.num.tk; have h2 := HSF.out.1.ri.num.top; omega))
              rw [HSF.out.2.1, HSF.out.2.2.1] at HRE
              rw [HSF.out.2.1] at HTO
              have hd2 := HI9.out.read.1
              rw [HSF.out.2.2.2] at hd2
              have hwr : IntKind.i64.wrap (T - tm) = T - tm := IntWalk.i64_in _ (by have h1 := HSF.out.1.tp; have h2 := HSF.out.1.ri.tk; have h3 := HSF.out.2.1; have h4 := HSF.out.2.2.1; omega)
              go_wp2_with fail
              refine HTO.out.mono ?_
              rintro e w' ⟨rfl, hw'⟩
              have hw' := hw'.symm
              subst hw'
              go_wp2_with fail
              refine HRE.out.mono ?_
              rintro e wf ⟨rfl, qf, hwf⟩
              have HJF : Hid (FJ w wf p (j + 1) T tm) := ⟨_, _, _, by rw [hwf]; exact HI9.out.drewN qf, HSF.out.1, HSF.out.2.1, HSF.out.2.2.1, by have := HNW.out; omega⟩
              clear hwf HTO HRE hd2
              go_wp2_with fail
              go_roundw
              case rel => exact ⟨j + 1, T, tm, HJN.out, rfl, rfl, rfl, by go_num, HJF.out⟩
              case measure =>
                have := HJN.out
                simp [intOf]; omega
        · as_aux_lemma =>
            rw [if_neg hn0] at htp
            have HT1 : Hid (s1.top = (max T ((a : Int) + (n : Int)))) := by have := HTT.out.1; show s1.top = _; rw [htp, this]
            have HK1 : Hid (s1.tk = t) := htk1.trans HTT.out.2
            have HS1 := Lib.hid hS1
            have hcI : (a : Int) + (n : Int) ≤ tl := by rw [← HTL.out]; exact hc
            have HFR : Hid (s1.top - s.top = (max T ((a : Int) + (n : Int))) - T) := by rw [HTT.out.1]; show s1.top - T = _; rw [HT1.out]
            rw [hps] at HP
            clear hps htk1 htl1 hS1 htp hc
            have hT0 : 0 ≤ T ∧ T ≤ 478 := by have h1 := HS.out.ri.top; have h2 := HS.out.tp; have h3 := HTT.out.1; omega
            go_wp2_with fail
            refine HP.out.mono ?_
            rintro e w5 ⟨rfl, F5, hh5, hg5⟩
            rw [HFR.out]
            have HI5 := Lib.hid hh5
            have HX5 : Hid (w5.heap[g]? = some (.cells #[.int .i64 x0, .int .i64 x1, .int .i64 x2, .int .i64 x3, .bool x4, .slice A5 x5.length c5] 74 (0, 0))) := (hg5.1.block g (lt_of_block HXZ.out) HGF.out).trans HXZ.out
            have HGF5 : Hid (g ∉ F5) := fun hm => (hg5.2 g hm).elim HGF.out (fun h => by have := lt_of_block HXZ.out; omega)
            clear hh5 hg5 HP HHZ HXZ hmk hd3 HI1 HX1
            have hwf : IntKind.i64.wrap (T + ((max T ((a : Int) + (n : Int))) - T)) = (max T ((a : Int) + (n : Int))) := by rw [IntWalk.i64_in _ (by omega)]; omega
            have hn0I : (0 : Int) < (n : Int) := by omega
            have HIN := Lib.hid (nS_in HS1.out.ri.num HS1.out.ri.ok mo)
            obtain ⟨m, hm⟩ : ∃ z : Nat, nS s1 mo = (z : Int) := ⟨(nS s1 mo).toNat, by have := HIN.out.1; omega⟩
            obtain ⟨tn, htn⟩ : ∃ z : Nat, s1.tk = (z : Int) := ⟨s1.tk.toNat, by have := HS1.out.ri.tk; omega⟩
            have HTK := Lib.hid (take_hr HI5.out HS1.out.ri.num (by have h1 := HS1.out.rd; have h2 := HS1.out.ri.tk; have h3 := HS1.out.tp; omega) mo m tn hm htn)
            have HMM := Lib.hid (And.intro hm htn)
            clear hm htn
            have g3 := cell_slot (o := 3) HX5.out rfl
            go_wp2_with fail
            refine (HP3.out _).mono ?_; rintro e w' ⟨rfl, hw'⟩; subst hw'
            clear g3
            go_wp2_with fail
            refine HTK.out.mono ?_
            rintro e w6 ⟨A6, c6, K6, F6, rfl, hh6, hg6, hc6, hro6, hK6⟩
            have HI6 := Lib.hid hh6
            have HX6 : Hid (w6.heap[g]? = some (.cells #[.int .i64 x0, .int .i64 x1, .int .i64 x2, .int .i64 x3, .bool x4, .slice A5 x5.length c5] 74 (0, 0))) := (hg6.1.block g (lt_of_block HX5.out) HGF5.out).trans HX5.out
            have HSm := Lib.hid (HS1.out.take mo m tn HMM.out.1 HMM.out.2 K6 hK6)
            obtain ⟨tm, htm⟩ : ∃ x, t + (m : Int) = x := ⟨_, rfl⟩
            have HTM : Hid ((takenS s1 (m : Int) K6).tk = tm) := by show s1.tk + (m : Int) = _; rw [HK1.out]; exact htm
            have HRM : Hid ((takenS s1 (m : Int) K6).rd = tm) := by have := HSm.out.2; rw [HK1.out, htm] at this; exact this
            have hov : overS (takenS s1 (m : Int) K6) = 0 := by
              unfold overS
              rw [HSm.out.1.br, HSm.out.1.en]
              rfl
            rw [hov]
            rw [if_neg (show ¬ (0 : Int) = 2 by decide)]
            clear hov
            have hmI : (m : Int) ≤ 1048576 := by have h1 := HIN.out; have h2 := HMM.out.1; omega
            have ht0 : 0 ≤ t ∧ t ≤ 478 := by have h1 := HS1.out.ri.tk; have h2 := HK1.out; have h3 := HS1.out.tp; omega
            have htm4 : tm ≤ 478 ∧ 0 ≤ tm := by have h1 := HSm.out.1.ri.tk; have h2 := HTM.out; have h3 := HSm.out.1.tp; omega
            have hwt : IntKind.i64.wrap (t + (m : Int)) = tm := by rw [← htm]; exact IntWalk.i64_in _ (by omega)
            have HDU := Lib.hid (due_hr HI6.out (by have := HRM.out; omega) (by show 1 ≤ s1.rm; rw [HS1.out.rm]; decide) (by have h1 := HRM.out; have h2 := HSm.out.1.rm; omega) (by have h1 := HSm.out.1.ri.top; omega))
            have HDE : Hid ((takenS s1 (m : Int) K6).rd + (takenS s1 (m : Int) K6).rm = tm + 400) := by show _ = _; rw [HRM.out, HSm.out.1.rm]
            have HDB : Hid (Cr.dueB (takenS s1 (m : Int) K6).rm (takenS s1 (m : Int) K6).rd (takenS s1 (m : Int) K6).tl = decide (200 ≤ tm + 400 - s1.tl)) := by
              show _ = _
              unfold Cr.dueB
              rw [HRM.out, HSm.out.1.rm]
              rfl
            rw [HDE.out, HDB.out] at HDU
            clear htm
            clear hh6 hg6 hc6 hro6 hK6 HTK HX5
            go_wp2_with fail
            refine HDU.out.mono ?_
            rintro e w8 ⟨rfl, q8, hw8⟩
            have HI8 : Hid (HR w w8 p (nw + n) F6 (takenS s1 (m : Int) K6)) := by rw [hw8]; exact HI6.out.drewN q8
            have HX8 : Hid (w8.heap[g]? = some (.cells #[.int .i64 x0, .int .i64 x1, .int .i64 x2, .int .i64 x3, .bool x4, .slice A5 x5.length c5] 74 (0, 0))) := by rw [hw8]; exact HX6.out
            clear hw8 HDU HI6 HX6
            have hd3 : w8.cell? ⟨p, 3, none⟩ = some (.int .i64 s1.tl) := HI8.out.read.2
            have g4 := cell_slot (o := 4) HX8.out rfl
            obtain ⟨tl1, htl1⟩ : ∃ x, s1.tl = x := ⟨_, rfl⟩
            have htl2 : 0 ≤ tl1 ∧ tl1 ≤ 878 := by have h1 := HS1.out.ri.top; have h2 := HS1.out.tl; have h3 := HK1.out; omega
            have hw4 : IntKind.i64.wrap (tm + 400 - tl1) = tm + 400 - tl1 := IntWalk.i64_in _ (by omega)
            have hw5 : IntKind.i64.wrap (tm + 400) = tm + 400 := IntWalk.i64_in _ (by omega)
            rw [htl1] at hd3 ⊢
            clear htl1
            obtain ⟨db, hdb⟩ : ∃ x, decide (200 ≤ tm + 400 - tl1) = x := ⟨_, rfl⟩
            rw [hdb]
            cases x4
            · skip
              have HSF : Hid (FrS (takenS s1 (m : Int) K6) ∧ (takenS s1 (m : Int) K6).top = (max T ((a : Int) + (n : Int))) ∧ (takenS s1 (m : Int) K6).tk = tm ∧ (takenS s1 (m : Int) K6).rd = tm) := ⟨HSm.out.1, HT1.out, HTM.out, HRM.out⟩
              have HTO := Lib.hid (top_hr HI8.out)
              have HRE := Lib.hid (rest_hr HI8.out (by have h1 := HSF.out.1.ri.num.top; exact h1) (by have h1 := HSF.out.1.ri.num.tk; have h2 := HSF.out.1.ri.num.top; omega))
              rw [HSF.out.2.1, HSF.out.2.2.1] at HRE
              rw [HSF.out.2.1] at HTO
              have hd2 := HI8.out.read.1
              rw [HSF.out.2.2.2] at hd2
              have hwr : IntKind.i64.wrap ((max T ((a : Int) + (n : Int))) - tm) = (max T ((a : Int) + (n : Int))) - tm := IntWalk.i64_in _ (by have h1 := HSF.out.1.tp; have h2 := HSF.out.1.ri.tk; have h3 := HSF.out.2.1; have h4 := HSF.out.2.2.1; omega)
              go_wp2_with fail
              refine HTO.out.mono ?_
              rintro e w' ⟨rfl, hw'⟩
              have hw' := hw'.symm
              subst hw'
              go_wp2_with fail
              refine HRE.out.mono ?_
              rintro e wf ⟨rfl, qf, hwf⟩
              have HJF : Hid (FJ w wf p (j + 1) (max T ((a : Int) + (n : Int))) tm) := ⟨_, _, _, by rw [hwf]; exact HI8.out.drewN qf, HSF.out.1, HSF.out.2.1, HSF.out.2.2.1, by have := HNW.out; omega⟩
              clear hwf HTO HRE hd2
              go_wp2_with fail
              go_roundw
              case rel => exact ⟨j + 1, (max T ((a : Int) + (n : Int))), tm, HJN.out, rfl, rfl, rfl, by go_num, HJF.out⟩
              case measure =>
                have := HJN.out
                simp [intOf]; omega
            · skip
              have HTE := Lib.hid (tell_hr HI8.out (by rw [HRM.out]; omega) (by rw [HSm.out.1.rm]; decide) (by rw [HRM.out, HSm.out.1.rm]; omega))
              rw [HSm.out.1.tell.2, HTM.out] at HTE
              go_wp2_with fail
              refine HTE.out.mono ?_
              rintro e w9 ⟨rfl, F9, hh9, hg9⟩
              have HI9 := Lib.hid hh9
              have HSF : Hid (FrS (toldS (takenS s1 (m : Int) K6)) ∧ (toldS (takenS s1 (m : Int) K6)).top = (max T ((a : Int) + (n : Int))) ∧ (toldS (takenS s1 (m : Int) K6)).tk = tm ∧ (toldS (takenS s1 (m : Int) K6)).rd = tm) := ⟨HSm.out.1.tell.1, HT1.out, HTM.out, HRM.out⟩
              clear hh9 hg9 HTE HI8
              have HTO := Lib.hid (top_hr HI9.out)
              have HRE := Lib.hid (rest_hr HI9.out (by have h1 := HSF.out.1.ri.num.top; exact h1) (by have h1 := HSF.out.1.ri.num.tk; have h2 := HSF.out.1.ri.num.top; omega))
              rw [HSF.out.2.1, HSF.out.2.2.1] at HRE
              rw [HSF.out.2.1] at HTO
              have hd2 := HI9.out.read.1
              rw [HSF.out.2.2.2] at hd2
              have hwr : IntKind.i64.wrap ((max T ((a : Int) + (n : Int))) - tm) = (max T ((a : Int) + (n : Int))) - tm := IntWalk.i64_in _ (by have h1 := HSF.out.1.tp; have h2 := HSF.out.1.ri.tk; have h3 := HSF.out.2.1; have h4 := HSF.out.2.2.1; omega)
              go_wp2_with fail
              refine HTO.out.mono ?_
              rintro e w' ⟨rfl, hw'⟩
              have hw' := hw'.symm
              subst hw'
              go_wp2_with fail
              refine HRE.out.mono ?_
              rintro e wf ⟨rfl, qf, hwf⟩
              have HJF : Hid (FJ w wf p (j + 1) (max T ((a : Int) + (n : Int))) tm) := ⟨_, _, _, by rw [hwf]; exact HI9.out.drewN qf, HSF.out.1, HSF.out.2.1, HSF.out.2.2.1, by have := HNW.out; omega⟩
              clear hwf HTO HRE hd2
              go_wp2_with fail
              go_roundw
              case rel => exact ⟨j + 1, (max T ((a : Int) + (n : Int))), tm, HJN.out, rfl, rfl, rfl, by go_num, HJF.out⟩
              case measure =>
                have := HJN.out
                simp [intOf]; omega
      · as_aux_lemma =>
          obtain ⟨s1, hs1⟩ : ∃ x, s = x := ⟨_, rfl⟩
          have HT1 : Hid (s1.top = T) := by rw [← hs1]; exact HTT.out.1
          have HK1 : Hid (s1.tk = t) := by rw [← hs1]; exact HTT.out.2
          have HS1 : Hid (FrS s1) := by rw [← hs1]; exact HS.out
          have hcI : ¬ (a : Int) + (n : Int) ≤ tl := by rw [← HTL.out]; exact hc
          rw [hps, hs1] at HP
          clear hps hc
          have hT0 : 0 ≤ T ∧ T ≤ 478 := by have h1 := HS.out.ri.top; have h2 := HS.out.tp; have h3 := HTT.out.1; omega
          go_wp2_with fail
          refine HP.out.mono ?_
          rintro e w5 ⟨rfl, F5, hh5, hg5⟩
          have HI5 := Lib.hid hh5
          have HX5 : Hid (w5.heap[g]? = some (.cells #[.int .i64 x0, .int .i64 x1, .int .i64 x2, .int .i64 x3, .bool x4, .slice A5 x5.length c5] 74 (0, 0))) := (hg5.1.block g (lt_of_block HXZ.out) HGF.out).trans HXZ.out
          have HGF5 : Hid (g ∉ F5) := fun hm => (hg5.2 g hm).elim HGF.out (fun h => by have := lt_of_block HXZ.out; omega)
          clear hh5 hg5 HP HHZ HXZ hmk hd3 HI1 HX1 hs1
          have hwf : IntKind.i64.wrap (T + 0) = T := by rw [IntWalk.i64_in _ (by omega)]; omega
          have hwT : IntKind.i64.wrap T = T := IntWalk.i64_in _ (by omega)
          have HIN := Lib.hid (nS_in HS1.out.ri.num HS1.out.ri.ok mo)
          obtain ⟨m, hm⟩ : ∃ z : Nat, nS s1 mo = (z : Int) := ⟨(nS s1 mo).toNat, by have := HIN.out.1; omega⟩
          obtain ⟨tn, htn⟩ : ∃ z : Nat, s1.tk = (z : Int) := ⟨s1.tk.toNat, by have := HS1.out.ri.tk; omega⟩
          have HTK := Lib.hid (take_hr HI5.out HS1.out.ri.num (by have h1 := HS1.out.rd; have h2 := HS1.out.ri.tk; have h3 := HS1.out.tp; omega) mo m tn hm htn)
          have HMM := Lib.hid (And.intro hm htn)
          clear hm htn
          have g3 := cell_slot (o := 3) HX5.out rfl
          go_wp2_with fail
          refine (HP3.out _).mono ?_; rintro e w' ⟨rfl, hw'⟩; subst hw'
          clear g3
          go_wp2_with fail
          refine HTK.out.mono ?_
          rintro e w6 ⟨A6, c6, K6, F6, rfl, hh6, hg6, hc6, hro6, hK6⟩
          have HI6 := Lib.hid hh6
          have HX6 : Hid (w6.heap[g]? = some (.cells #[.int .i64 x0, .int .i64 x1, .int .i64 x2, .int .i64 x3, .bool x4, .slice A5 x5.length c5] 74 (0, 0))) := (hg6.1.block g (lt_of_block HX5.out) HGF5.out).trans HX5.out
          have HSm := Lib.hid (HS1.out.take mo m tn HMM.out.1 HMM.out.2 K6 hK6)
          obtain ⟨tm, htm⟩ : ∃ x, t + (m : Int) = x := ⟨_, rfl⟩
          have HTM : Hid ((takenS s1 (m : Int) K6).tk = tm) := by show s1.tk + (m : Int) = _; rw [HK1.out]; exact htm
          have HRM : Hid ((takenS s1 (m : Int) K6).rd = tm) := by have := HSm.out.2; rw [HK1.out, htm] at this; exact this
          have hov : overS (takenS s1 (m : Int) K6) = 0 := by
            unfold overS
            rw [HSm.out.1.br, HSm.out.1.en]
            rfl
          rw [hov]
          rw [if_neg (show ¬ (0 : Int) = 2 by decide)]
          clear hov
          have hmI : (m : Int) ≤ 1048576 := by have h1 := HIN.out; have h2 := HMM.out.1; omega
          have ht0 : 0 ≤ t ∧ t ≤ 478 := by have h1 := HS1.out.ri.tk; have h2 := HK1.out; have h3 := HS1.out.tp; omega
          have htm4 : tm ≤ 478 ∧ 0 ≤ tm := by have h1 := HSm.out.1.ri.tk; have h2 := HTM.out; have h3 := HSm.out.1.tp; omega
          have hwt : IntKind.i64.wrap (t + (m : Int)) = tm := by rw [← htm]; exact IntWalk.i64_in _ (by omega)
          have HDU := Lib.hid (due_hr HI6.out (by have := HRM.out; omega) (by show 1 ≤ s1.rm; rw [HS1.out.rm]; decide) (by have h1 := HRM.out; have h2 := HSm.out.1.rm; omega) (by have h1 := HSm.out.1.ri.top; omega))
          have HDE : Hid ((takenS s1 (m : Int) K6).rd + (takenS s1 (m : Int) K6).rm = tm + 400) := by show _ = _; rw [HRM.out, HSm.out.1.rm]
          have HDB : Hid (Cr.dueB (takenS s1 (m : Int) K6).rm (takenS s1 (m : Int) K6).rd (takenS s1 (m : Int) K6).tl = decide (200 ≤ tm + 400 - s1.tl)) := by
            show _ = _
            unfold Cr.dueB
            rw [HRM.out, HSm.out.1.rm]
            rfl
          rw [HDE.out, HDB.out] at HDU
          clear htm
          clear hh6 hg6 hc6 hro6 hK6 HTK HX5
          go_wp2_with fail
          refine HDU.out.mono ?_
          rintro e w8 ⟨rfl, q8, hw8⟩
          have HI8 : Hid (HR w w8 p (nw + n) F6 (takenS s1 (m : Int) K6)) := by rw [hw8]; exact HI6.out.drewN q8
          have HX8 : Hid (w8.heap[g]? = some (.cells #[.int .i64 x0, .int .i64 x1, .int .i64 x2, .int .i64 x3, .bool x4, .slice A5 x5.length c5] 74 (0, 0))) := by rw [hw8]; exact HX6.out
          clear hw8 HDU HI6 HX6
          have hd3 : w8.cell? ⟨p, 3, none⟩ = some (.int .i64 s1.tl) := HI8.out.read.2
          have g4 := cell_slot (o := 4) HX8.out rfl
          obtain ⟨tl1, htl1⟩ : ∃ x, s1.tl = x := ⟨_, rfl⟩
          have htl2 : 0 ≤ tl1 ∧ tl1 ≤ 878 := by have h1 := HS1.out.ri.top; have h2 := HS1.out.tl; have h3 := HK1.out; omega
          have hw4 : IntKind.i64.wrap (tm + 400 - tl1) = tm + 400 - tl1 := IntWalk.i64_in _ (by omega)
          have hw5 : IntKind.i64.wrap (tm + 400) = tm + 400 := IntWalk.i64_in _ (by omega)
          rw [htl1] at hd3 ⊢
          clear htl1
          obtain ⟨db, hdb⟩ : ∃ x, decide (200 ≤ tm + 400 - tl1) = x := ⟨_, rfl⟩
          rw [hdb]
          cases x4
          · skip
            have HSF : Hid (FrS (takenS s1 (m : Int) K6) ∧ (takenS s1 (m : Int) K6).top = T ∧ (takenS s1 (m : Int) K6).tk = tm ∧ (takenS s1 (m : Int) K6).rd = tm) := ⟨HSm.out.1, HT1.out, HTM.out, HRM.out⟩
            have HTO := Lib.hid (top_hr HI8.out)
            have HRE := Lib.hid (rest_hr HI8.out (by have h1 := HSF.out.1.ri.num.top; exact h1) (by have h1 := HSF.out.1.ri.num.tk; have h2 := HSF.out.1.ri.num.top; omega))
            rw [HSF.out.2.1, HSF.out.2.2.1] at HRE
            rw [HSF.out.2.1] at HTO
            have hd2 := HI8.out.read.1
            rw [HSF.out.2.2.2] at hd2
            have hwr : IntKind.i64.wrap (T - tm) = T - tm := IntWalk.i64_in _ (by have h1 := HSF.out.1.tp; have h2 := HSF.out.1.ri.tk; have h3 := HSF.out.2.1; have h4 := HSF.out.2.2.1; omega)
            go_wp2_with fail
            refine HTO.out.mono ?_
            rintro e w' ⟨rfl, hw'⟩
            have hw' := hw'.symm
            subst hw'
            go_wp2_with fail
            refine HRE.out.mono ?_
            rintro e wf ⟨rfl, qf, hwf⟩
            have HJF : Hid (FJ w wf p (j + 1) T tm) := ⟨_, _, _, by rw [hwf]; exact HI8.out.drewN qf, HSF.out.1, HSF.out.2.1, HSF.out.2.2.1, by have := HNW.out; omega⟩
            clear hwf HTO HRE hd2
            go_wp2_with fail
            go_roundw
            case rel => exact ⟨j + 1, T, tm, HJN.out, rfl, rfl, rfl, by go_num, HJF.out⟩
            case measure =>
              have := HJN.out
              simp [intOf]; omega
          · skip
            have HTE := Lib.hid (tell_hr HI8.out (by rw [HRM.out]; omega) (by rw [HSm.out.1.rm]; decide) (by rw [HRM.out, HSm.out.1.rm]; omega))
            rw [HSm.out.1.tell.2, HTM.out] at HTE
            go_wp2_with fail
            refine HTE.out.mono ?_
            rintro e w9 ⟨rfl, F9, hh9, hg9⟩
            have HI9 := Lib.hid hh9
            have HSF : Hid (FrS (toldS (takenS s1 (m : Int) K6)) ∧ (toldS (takenS s1 (m : Int) K6)).top = T ∧ (toldS (takenS s1 (m : Int) K6)).tk = tm ∧ (toldS (takenS s1 (m : Int) K6)).rd = tm) := ⟨HSm.out.1.tell.1, HT1.out, HTM.out, HRM.out⟩
            clear hh9 hg9 HTE HI8
            have HTO := Lib.hid (top_hr HI9.out)
            have HRE := Lib.hid (rest_hr HI9.out (by have h1 := HSF.out.1.ri.num.top; exact h1) (by have h1 := HSF.out.1.ri.num.tk; have h2 := HSF.out.1.ri.num.top; omega))
            rw [HSF.out.2.1, HSF.out.2.2.1] at HRE
            rw [HSF.out.2.1] at HTO
            have hd2 := HI9.out.read.1
            rw [HSF.out.2.2.2] at hd2
            have hwr : IntKind.i64.wrap (T - tm) = T - tm := IntWalk.i64_in _ (by have h1 := HSF.out.1.tp; have h2 := HSF.out.1.ri.tk; have h3 := HSF.out.2.1; have h4 := HSF.out.2.2.1; omega)
            go_wp2_with fail
            refine HTO.out.mono ?_
            rintro e w' ⟨rfl, hw'⟩
            have hw' := hw'.symm
            subst hw'
            go_wp2_with fail
            refine HRE.out.mono ?_
            rintro e wf ⟨rfl, qf, hwf⟩
            have HJF : Hid (FJ w wf p (j + 1) T tm) := ⟨_, _, _, by rw [hwf]; exact HI9.out.drewN qf, HSF.out.1, HSF.out.2.1, HSF.out.2.2.1, by have := HNW.out; omega⟩
            clear hwf HTO HRE hd2
            go_wp2_with fail
            go_roundw
            case rel => exact ⟨j + 1, T, tm, HJN.out, rfl, rfl, rfl, by go_num, HJF.out⟩
            case measure =>
              have := HJN.out
              simp [intOf]; omega
end Go.Proofs.Ytcglhoochmfmiaa.Re
