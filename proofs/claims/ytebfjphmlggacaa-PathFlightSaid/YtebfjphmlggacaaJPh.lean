/- PathFlight: the walk. Conditions: the calls' row is an argument's, no more than so many. -/
import Derived.Test.YtebfjphmlggacaaJPg
set_option linter.unusedSimpArgs false
set_option linter.unusedVariables false

namespace Go.Proofs.Ytebfjphmlggacaa.Pa
open Go Go.RowKit Go.Proofs.Ytebfjphmlggacaa Go.Proofs.Ytebfjphmlggacaa.Sp Go.Proofs.Ytebfjphmlggacaa.Ld

set_option maxRecDepth 100000 in
set_option maxHeartbeats 16000000 in
theorem flight_walk (A : Option Addr) (n cap : Nat) (rs : List Rc) (w : World) (hr : CallsIn w A cap n rs) (hn : n ≤ 1759218604441) :
    Calls Try.prog 5 #[.slice A n cap] w fun e w' => e = .returned (.bool true) ∧ Below w.heap.size w w' := by
  have HR := Lib.hid hr
  have hncap := hr.le
  have hnI : (n : Int) ≤ 1759218604441 := by omega
  have hncI : (n : Int) ≤ (cap : Int) := by omega
  clear hr
  go_enter Try.func5, Try.ntmps5
  go_wp2_with fail
  refine (new_path w).mono ?_
  rintro e w1 ⟨p, rfl, hp1, hb1⟩
  have HP1 := Lib.hid hp1
  have HB1 := Lib.hid hb1
  clear hp1 hb1
  go_wp2_with fail
  refine (PaKn.known_any w1).mono ?_
  rintro e w2 ⟨rfl, hb2⟩
  have HP2 := Lib.hid (HP1.out.keep hb2)
  have HB2 := Lib.hid (HB1.out.trans (hb2.mono HB1.out.size))
  clear hb2 HP1 HB1 w1
  have hmm := @run_makeMap Try.prog
  go_upto_region 6 with (fail)
  clear hmm
  obtain ⟨w3, hw3⟩ : ∃ x, w2.alloc (.map #[] 0) = x := ⟨_, rfl⟩
  obtain ⟨b, hb⟩ : ∃ x, w2.heap.size = x := ⟨_, rfl⟩
  have HF3 : Hid (FlI w w3 p b 0 Rtt.r0 [] 0 0 ⟨4, 32, 0, 0⟩) := by
    have hlt := HP2.out.lt
    refine ⟨?_, ?_, by omega, by have := HB2.out.size; omega, ?_, Nat.le_refl _, ⟨by decide, by decide⟩, fun x hx => (by cases hx), fun x hx => (by cases hx)⟩
    · rw [← hw3]; exact HP2.out.keep ((Below.refl _ _).alloc (Nat.le_refl _) _)
    · rw [← hw3, ← hb]; exact ToldB.new w2
    · rw [← hw3]; exact HB2.out.alloc HB2.out.size _
  rw [hw3, hb]
  clear hw3 hb HP2 HB2
  go_wp2_with fail
  go_loopw [4, 5, 25] (fun nw m i wr => ∃ (j b : Nat) (s : Rtt.RS) (kq : List (Pk × List Fq)) (next behind : Nat) (wd : Cg.Win), nw = .int .i64 (j : Int) ∧ m = .map (some b) ∧ i = .int .i64 (j : Int) ∧ j ≤ n ∧ Hid (FlI w wr p b j s kq next behind wd)) (fun _ _ i _ => n - (intOf i).toNat)
  case atStart => exact ⟨0, b, _, _, _, _, _, rfl, rfl, rfl, Nat.zero_le _, HF3.out⟩
  case round =>
    clear HF3
    obtain ⟨j, b, s, kq, next, behind, wd, rfl, rfl, rfl, hj, HK⟩ := hrel
    by_cases hjn : j < n
    · have hjnI : (j : Int) < (n : Int) := by omega
      obtain ⟨b0, off, hA, hbn, hcs⟩ := HR.out.rd (by omega)
      subst hA
      obtain ⟨r, hrj⟩ : ∃ r, rs[j]? = some r := ⟨_, List.getElem?_eq_getElem (by have := HR.out.len; omega)⟩
      obtain ⟨hok, hcell⟩ := hcs j r hrj
      have hrd : ∀ i v, (rcC r)[i]? = some v → wr.cell? ⟨b0, off + j * 6 + i, none⟩ = some v := fun i v hv => by
        rw [HK.out.below.cell (p := ⟨b0, off + j * 6 + i, none⟩) hbn]
        exact hcell i v hv
      have cx0 : wr.cell? ⟨b0, off + j * 6, none⟩ = _ := hrd 0 _ rfl
      have cx1 := hrd 1 _ rfl
      have cx2 := hrd 2 _ rfl
      have cx3 := hrd 3 _ rfl
      have cx4 := hrd 4 _ rfl
      have cx5 := hrd 5 _ rfl
      obtain ⟨x0, x1, x2, x3, A4, n4, c4, A5, l5, c5⟩ := r
      simp only at cx0 cx1 cx2 cx3 cx4 cx5
      clear hok hcell hcs hrj hrd
      obtain ⟨N5, hN5⟩ : ∃ x, l5.length = x := ⟨_, rfl⟩
      rw [hN5] at cx5
      clear hN5
      go_upto_region 9 with (fail)
      obtain ⟨w1, hw1⟩ : ∃ x, wr.alloc (.cells #[.int .i64 x0, .int .i64 x1, .int .i64 x2, .int .i64 x3, .slice A4 n4 c4, .slice A5 N5 c5] 57) = x := ⟨_, rfl⟩
      obtain ⟨q, hq⟩ : ∃ x, wr.heap.size = x := ⟨_, rfl⟩
      have hb1 : Below wr.heap.size wr w1 := hw1 ▸ (Below.refl _ _).alloc (Nat.le_refl _) _
      have hqc : w1.heap[q]? = some (.cells #[.int .i64 x0, .int .i64 x1, .int .i64 x2, .int .i64 x3, .slice A4 n4 c4, .slice A5 N5 c5] 57 (0, 0)) := by rw [← hw1, ← hq]; exact heap_alloc_new _ _
      have cq0 := cell_slot hqc (o := 0) rfl
      have cq1 := cell_slot hqc (o := 1) rfl
      have HK1 := Lib.hid (HK.out.keep hb1)
      rw [hw1, hq]
      clear hw1 hq hb1 hqc cx0 cx1 cx2 cx3 cx4 cx5 HK
      have hjI : (j : Int) ≤ 1759218604441 := by omega
      obtain ⟨M, hM, hM6⟩ : ∃ x : Nat, x0 % 6 = (x : Int) ∧ x < 6 := ⟨(x0 % 6).toNat, by omega, by omega⟩
      have HPM := Lib.hid (fun W => pick_any x0 6 W (by decide) (by decide))
      rw [hM] at HPM
      clear hM
      go_wp2_with fail
      refine (HPM.out _).mono ?_
      rintro e wq ⟨rfl, hwq⟩
      have hwq := hwq.symm
      subst hwq
      clear HPM
      rcases (by omega : M = 0 ∨ M = 1 ∨ M = 2 ∨ M = 3 ∨ 4 ≤ M) with rfl | rfl | rfl | rfl | hM4
      · have hnx := HK1.out.nx
        have hnxI : (next : Int) ≤ 1759218604441 := by omega
        have HNX : Hid (∀ m, Calls Try.prog 14 #[.pointer (some ⟨p, 4, none⟩)] (wq.drewN m) fun e w2 => e = .returned (.int .i64 (next : Int)) ∧ w2 = wq.drewN m) := fun m => by
          obtain ⟨cu, _, hl, _⟩ := HK1.out.path.cur
          exact next_led (hl.keep ⟨rfl, rfl, rfl, Nat.le_refl _, fun _ _ => rfl⟩)
        have ha0 := Int.emod_nonneg x1 (show (next : Int) + 1 ≠ 0 by omega)
        have ha1 := Int.emod_lt_of_pos x1 (show (0 : Int) < (next : Int) + 1 by omega)
        obtain ⟨a, ha, han⟩ : ∃ a : Nat, x1 % ((next : Int) + 1) = (a : Int) ∧ a ≤ next := ⟨(x1 % ((next : Int) + 1)).toNat, by omega, by omega⟩
        have HPA : Hid (∀ W, Calls Try.prog 16 #[.int .i64 x1, .int .i64 ((next : Int) + 1)] W fun e w2 => e = .returned (.int .i64 (a : Int)) ∧ w2 = W) := fun W => by
          have := pick_any x1 ((next : Int) + 1) W (by omega) (by omega)
          rw [ha] at this
          exact this.mono fun e w2 h => ⟨h.1, h.2.symm⟩
        clear ha0 ha1 ha
        go_wp2_with fail
        go_quiet ((first | (go_at_call 14; exact Calls.quiet_of_same (HNX.out _)) | (go_at_call 16; exact Calls.quiet_of_same (HPA.out _))))
        have HNQ := Lib.hid (HNX.out nq)
        have HK2 := Lib.hid (HK1.out.keep (w' := wq.drewN nq) ⟨rfl, rfl, rfl, Nat.le_refl _, fun _ _ => rfl⟩)
        clear HNX HPA HK1 cq0 cq1
        obtain ⟨w2, hw2⟩ : ∃ x, wq.drewN nq = x := ⟨_, rfl⟩
        rw [hw2] at HNQ HK2 ⊢
        clear hw2
        go_wp2_with fail
        refine HNQ.out.mono ?_
        rintro e w3 ⟨rfl, hw3⟩
        subst hw3
        clear HNQ
        by_cases hge : next ≤ a
        · have hgeI : (next : Int) ≤ (a : Int) := by omega
          have H6 := Lib.hid HK2.out.more
          clear HK2
          go_wp2_with fail
          go_roundw
          case rel => exact ⟨j + 1, b, s, kq, next, behind, wd, by go_num, rfl, by go_num, by omega, H6.out⟩
          case measure => simp [intOf]; omega
        · have hgeI : ¬ (next : Int) ≤ (a : Int) := by omega
          have haI : (a : Int) ≤ 1759218604441 := by omega
          obtain ⟨q1, hq1⟩ : ∃ x, w3.heap.size = x := ⟨_, rfl⟩
          obtain ⟨w4, hw4⟩ : ∃ x, w3.alloc (.cells #[.int .i64 (a : Int), .int .i64 (a : Int)] 29) = x := ⟨_, rfl⟩
          have hb4 : Below w3.heap.size w3 w4 := hw4 ▸ (Below.refl _ _).alloc (Nat.le_refl _) _
          have hr4 : Rd w4 w4.heap.size (some ⟨q1, 0, none⟩) (1 * 2) (ints (pl [((a : Int), (a : Int))])) := by
            rw [← hw4]
            exact rd_new _ _ _ _ _ _ _ hq1.symm (by simp) rfl rfl
          have HK4 := Lib.hid (HK2.out.keep hb4)
          have HHD := Lib.hid (heard_path HK4.out.path [((a : Int), (a : Int))] (by simp) (some ⟨q1, 0, none⟩) 1 (by simp) hr4 ((j : Int) + 1) ⟨by omega, by omega⟩ (fun x hx => by have := HK4.out.ats x hx; omega) (by omega) (by have := HK4.out.tot; omega))
          go_wp2_with fail
          clear hb4 hr4 hq1 hw4 HK2
          refine HHD.out.mono ?_
          intro e w5 hor
          clear HHD
          rcases hor with ⟨⟨r, hr, hbad⟩, _⟩ | ⟨_, A', c', rfl, _, _, hp, hm⟩
          · obtain rfl := List.mem_singleton.1 hr
            simp only at hbad
            omega
          · have htm := HK4.out.told.moved hm HK4.out.ne
            obtain ⟨w6, hdel, hte, hgr⟩ := htm.del (tnOf_nodup HK4.out.path.rising.1) a (by omega) 0
            have H6 : Hid (FlI w w6 p b (j + 1) (heardS s (selK (inRs [((a : Int), (a : Int))]) kq) (behF behind [((a : Int), (a : Int))]) ((j : Int) + 1)) (selK (fun k => !inRs [((a : Int), (a : Int))] k) kq) next (behF behind [((a : Int), (a : Int))]) (Cg.goodN (els ((selK (inRs [((a : Int), (a : Int))]) kq).map (·.1))) wd)) := by
              have hbk := HK4.out.bk
              refine ⟨hp.mapped hgr htm.isMap, by rw [tnOf_one HK4.out.path.rising.1]; exact hte.more (by omega), HK4.out.ne, HK4.out.new, map_grown_below (HK4.out.below.trans hm.below) hgr HK4.out.new, Nat.le_succ_of_le HK4.out.nx, ?_, fun x hx => ⟨(HK4.out.ats x (selK_mem hx)).1, by have := (HK4.out.ats x (selK_mem hx)).2; omega⟩, fun x hx => HK4.out.one x (selK_mem hx)⟩
              unfold heardS
              split
              · rw [Rtt.samp_bk]; omega
              · omega
            clear hp hm htm hte hgr HK4
            go_upto_region 33 with (fail)
            clear hdel
            obtain ⟨s', kq', next', behind', wd', HZ⟩ : ∃ s' kq' next' behind' wd', Hid (FlI w w6 p b (j + 1) s' kq' next' behind' wd') := ⟨_, _, _, _, _, H6⟩
            clear H6
            have HFL : Hid (∀ m, Calls Try.prog 19 #[.pointer (some ⟨p, 4, none⟩)] (w6.drewN m) fun e w' => e = .returned (.int .i64 (els (kq'.map (·.1)) : Int)) ∧ w' = w6.drewN m) := fun m => by
              obtain ⟨cu, _, hl, _⟩ := HZ.out.path.cur
              exact flight_led (hl.keep ⟨rfl, rfl, rfl, Nat.le_refl _, fun _ _ => rfl⟩)
            have HOP : Hid (∀ m, Calls Try.prog 12 #[.pointer (some ⟨p, 0, none⟩)] (w6.drewN m) fun e w' => e = .returned (.bool (decide ((els (kq'.map (·.1)) : Int) < wd'.size))) ∧ ∃ q, w' = (w6.drewN m).drewN q) := fun m => open_path (HZ.out.path.keep ⟨rfl, rfl, rfl, Nat.le_refl _, fun _ _ => rfl⟩)
            have hlen : ∀ (m : Nat) (ty : TypeId), (Builtin.len_ #[54] ty #[.map (some b)]).run Try.prog (w6.drewN m) = .ok (.int .i64 (els (kq'.map (·.1)) : Int)) (w6.drewN m) := fun m ty => by
              rw [← tnOf_len]
              exact (HZ.out.told.keep (w' := w6.drewN m) ⟨rfl, rfl, rfl, Nat.le_refl _, fun _ _ => rfl⟩).len ty
            obtain ⟨E, hE⟩ : ∃ x, (els (kq'.map (·.1)) : Int) = x := ⟨_, rfl⟩
            rw [hE] at HFL HOP
            simp only [hE] at hlen
            clear hE
            have hsz : w6.cell? ⟨p, 8, none⟩ = some (.int .i64 wd'.size) := by
              obtain ⟨cu, _, _, hw⟩ := HZ.out.path.cur
              exact hw.cell.1
            obtain ⟨sz, hsz'⟩ : ∃ x, wd'.size = x := ⟨_, rfl⟩
            rw [hsz'] at HOP hsz
            clear hsz'
            have HNX : Hid (∀ m, FlI w (w6.drewN m) p b (j + 1) s' kq' next' behind' wd') := fun m => HZ.out.keep ⟨rfl, rfl, rfl, Nat.le_refl _, fun _ _ => rfl⟩
            clear HZ
            by_cases hlt : E < sz
            · rw [decide_eq_true hlt] at HOP
              go_wp2_with fail
              go_quiet ((first | (go_at_call 19; exact Calls.quiet_of_same (HFL.out _)) | (go_at_call 12; exact Calls.quiet_of (HOP.out _))))
              clear HFL HOP hlen hsz
              go_wp2_with fail
              go_roundw
              case rel => exact ⟨j + 1, b, s', kq', next', behind', wd', by go_num, rfl, by go_num, by omega, HNX.out _⟩
              case measure => simp [intOf]; omega
            · rw [decide_eq_false hlt] at HOP
              go_wp2_with fail
              go_quiet ((first | (go_at_call 19; exact Calls.quiet_of_same (HFL.out _)) | (go_at_call 12; exact Calls.quiet_of (HOP.out _))))
              clear HFL HOP hlen hsz
              go_wp2_with fail
              go_roundw
              case rel => exact ⟨j + 1, b, s', kq', next', behind', wd', by go_num, rfl, by go_num, by omega, HNX.out _⟩
              case measure => simp [intOf]; omega
      · have HF0 : Hid (Calls Try.prog 19 #[.pointer (some ⟨p, 4, none⟩)] wq fun e w2 => e = .returned (.int .i64 (els (kq.map (·.1)) : Int)) ∧ w2 = wq) := by
          obtain ⟨cu, _, hl, _⟩ := HK1.out.path.cur
          exact flight_led hl
        have hsz : wq.cell? ⟨p, 8, none⟩ = some (.int .i64 wd.size) := by
          obtain ⟨cu, _, _, hw⟩ := HK1.out.path.cur
          exact hw.cell.1
        have HLP := Lib.hid (late_path HK1.out.path ((j : Int) + 1) ⟨by omega, by omega⟩ (by have := HK1.out.nx; omega) (by have := HK1.out.tot; omega))
        clear cq0 cq1
        go_wp2_with fail
        refine HF0.out.mono ?_
        rintro e w2 ⟨rfl, hw2⟩
        subst hw2
        clear HF0
        go_wp2_with fail
        refine HLP.out.mono ?_
        rintro e w3 ⟨A', c', rfl, _, _, hp, hm⟩
        clear HLP hsz
        obtain ⟨f, hf⟩ : ∃ x, lateS behind ((j : Int) + 1) s = x := ⟨_, rfl⟩
        rw [hf] at hp
        clear hf
        have hsplit := els_sel f kq
        have hle := badL_le HK1.out.path.ok (selK f kq) next
        have HF1 : Hid (Calls Try.prog 19 #[.pointer (some ⟨p, 4, none⟩)] w3 fun e w2 => e = .returned (.int .i64 (els ((selK (fun k => !f k) kq).map (·.1)) : Int)) ∧ w2 = w3) := by
          obtain ⟨cu, _, hl, _⟩ := hp.cur
          exact flight_led hl
        have hsz : w3.cell? ⟨p, 8, none⟩ = some (.int .i64 (badL wd (selK f kq) next).size) := by
          obtain ⟨cu, _, _, hw⟩ := hp.cur
          exact hw.cell.1
        have hbel := HK1.out.below.trans hm.below
        by_cases h0 : els ((selK f kq).map (·.1)) = 0
        · have hbl := badL_none (wd := wd) h0 next
          have htn := tnOf_none h0
          rw [hbl] at hp hsz
          have e1 : els ((selK (fun k => !f k) kq).map (·.1)) = els (kq.map (·.1)) := by omega
          rw [e1] at HF1
          have H6 : Hid (FlI w w3 p b (j + 1) s (selK (fun k => !f k) kq) next behind wd) :=
            ⟨hp, by rw [htn]; exact (HK1.out.told.moved hm HK1.out.ne).more (by omega), HK1.out.ne, HK1.out.new, hbel, Nat.le_succ_of_le HK1.out.nx, ⟨HK1.out.bk.1, by have := HK1.out.bk.2; omega⟩, fun x hx => ⟨(HK1.out.ats x (selK_mem hx)).1, by have := (HK1.out.ats x (selK_mem hx)).2; omega⟩, fun x hx => HK1.out.one x (selK_mem hx)⟩
          obtain ⟨E0, hE0⟩ : ∃ x, (els (kq.map (·.1)) : Int) = x := ⟨_, rfl⟩
          rw [hE0] at HF1 ⊢
          obtain ⟨z0, hz0⟩ : ∃ x, wd.size = x := ⟨_, rfl⟩
          rw [hz0] at hsz ⊢
          clear hp hm hbl htn e1 hsplit hle hE0 hz0 hbel h0 HK1
          go_wp2_with fail
          refine HF1.out.mono ?_
          rintro e w4 ⟨rfl, hw4⟩
          subst hw4
          go_wp2_with fail
          refine HF1.out.mono ?_
          rintro e w5 ⟨rfl, hw5⟩
          subst hw5
          go_wp2_with fail
          refine HF1.out.mono ?_
          rintro e w6 ⟨rfl, hw6⟩
          subst hw6
          clear hsz HF1
          obtain ⟨s', kq', next', behind', wd', HZ⟩ : ∃ s' kq' next' behind' wd', Hid (FlI w w6 p b (j + 1) s' kq' next' behind' wd') := ⟨_, _, _, _, _, H6⟩
          clear H6
          have HFL : Hid (∀ m, Calls Try.prog 19 #[.pointer (some ⟨p, 4, none⟩)] (w6.drewN m) fun e w' => e = .returned (.int .i64 (els (kq'.map (·.1)) : Int)) ∧ w' = w6.drewN m) := fun m => by
            obtain ⟨cu, _, hl, _⟩ := HZ.out.path.cur
            exact flight_led (hl.keep ⟨rfl, rfl, rfl, Nat.le_refl _, fun _ _ => rfl⟩)
          have HOP : Hid (∀ m, Calls Try.prog 12 #[.pointer (some ⟨p, 0, none⟩)] (w6.drewN m) fun e w' => e = .returned (.bool (decide ((els (kq'.map (·.1)) : Int) < wd'.size))) ∧ ∃ q, w' = (w6.drewN m).drewN q) := fun m => open_path (HZ.out.path.keep ⟨rfl, rfl, rfl, Nat.le_refl _, fun _ _ => rfl⟩)
          have hlen : ∀ (m : Nat) (ty : TypeId), (Builtin.len_ #[54] ty #[.map (some b)]).run Try.prog (w6.drewN m) = .ok (.int .i64 (els (kq'.map (·.1)) : Int)) (w6.drewN m) := fun m ty => by
            rw [← tnOf_len]
            exact (HZ.out.told.keep (w' := w6.drewN m) ⟨rfl, rfl, rfl, Nat.le_refl _, fun _ _ => rfl⟩).len ty
          obtain ⟨E, hE⟩ : ∃ x, (els (kq'.map (·.1)) : Int) = x := ⟨_, rfl⟩
          rw [hE] at HFL HOP
          simp only [hE] at hlen
          clear hE
          have hsz : w6.cell? ⟨p, 8, none⟩ = some (.int .i64 wd'.size) := by
            obtain ⟨cu, _, _, hw⟩ := HZ.out.path.cur
            exact hw.cell.1
          obtain ⟨sz, hsz'⟩ : ∃ x, wd'.size = x := ⟨_, rfl⟩
          rw [hsz'] at HOP hsz
          clear hsz'
          have HNX : Hid (∀ m, FlI w (w6.drewN m) p b (j + 1) s' kq' next' behind' wd') := fun m => HZ.out.keep ⟨rfl, rfl, rfl, Nat.le_refl _, fun _ _ => rfl⟩
          clear HZ
          by_cases hlt : E < sz
          · rw [decide_eq_true hlt] at HOP
            go_wp2_with fail
            go_quiet ((first | (go_at_call 19; exact Calls.quiet_of_same (HFL.out _)) | (go_at_call 12; exact Calls.quiet_of (HOP.out _))))
            clear HFL HOP hlen hsz
            go_wp2_with fail
            go_roundw
            case rel => exact ⟨j + 1, b, s', kq', next', behind', wd', by go_num, rfl, by go_num, by omega, HNX.out _⟩
            case measure => simp [intOf]; omega
          · rw [decide_eq_false hlt] at HOP
            go_wp2_with fail
            go_quiet ((first | (go_at_call 19; exact Calls.quiet_of_same (HFL.out _)) | (go_at_call 12; exact Calls.quiet_of (HOP.out _))))
            clear HFL HOP hlen hsz
            go_wp2_with fail
            go_roundw
            case rel => exact ⟨j + 1, b, s', kq', next', behind', wd', by go_num, rfl, by go_num, by omega, HNX.out _⟩
            case measure => simp [intOf]; omega
        · have HBL := Lib.hid hbel
          obtain ⟨E0, hE0⟩ : ∃ x : Nat, els (kq.map (·.1)) = x := ⟨_, rfl⟩
          obtain ⟨E1, hE1⟩ : ∃ x : Nat, els ((selK (fun k => !f k) kq).map (·.1)) = x := ⟨_, rfl⟩
          rw [hE0, hE1] at hsplit
          rw [hE1] at HF1
          rw [hE0]
          obtain ⟨z1, hz1⟩ : ∃ x, (badL wd (selK f kq) next).size = x := ⟨_, rfl⟩
          obtain ⟨z0, hz0⟩ : ∃ x, wd.size = x := ⟨_, rfl⟩
          rw [hz1, hz0] at hle
          rw [hz1] at hsz
          rw [hz0]
          have h1 : ¬ (E0 : Int) < (E1 : Int) := by omega
          have h2 : ¬ z0 < z1 := by omega
          have h3 : ((E0 : Int) == (E1 : Int)) = false := by simp; omega
          clear hp hm hsplit hE0 hE1 hz0 hz1 hbel h0 HK1
          go_wp2_with fail
          refine HF1.out.mono ?_
          rintro e w4 ⟨rfl, hw4⟩
          subst hw4
          go_wp2_with fail
          refine HF1.out.mono ?_
          rintro e w5 ⟨rfl, hw5⟩
          subst hw5
          go_wp2_with fail
          refine HF1.out.mono ?_
          rintro e w6 ⟨rfl, hw6⟩
          subst hw6
          go_wp2_with fail
          go_ret
          exact ⟨rfl, HBL.out⟩
      · have HPB := Lib.hid (probe_path HK1.out.path ((j : Int) + 1) ⟨by omega, by omega⟩ (fun x hx => by have := HK1.out.ats x hx; omega) ⟨HK1.out.bk.1, by have := HK1.out.bk.2; omega⟩ (by have := HK1.out.nx; omega) (by have := HK1.out.tot; omega))
        clear cq0 cq1
        go_wp2_with fail
        refine HPB.out.mono ?_
        intro e w2 hor
        clear HPB
        rcases hor with ⟨_, rfl, q2, hw2⟩ | ⟨_, A', c', rfl, _, _, hp, hm⟩
        · have H6 : Hid (FlI w w2 p b (j + 1) s kq next behind wd) := by
            rw [hw2]
            exact (HK1.out.keep (Below.drewN' _ _ _)).more
          clear HK1 hw2
          obtain ⟨s', kq', next', behind', wd', HZ⟩ : ∃ s' kq' next' behind' wd', Hid (FlI w w2 p b (j + 1) s' kq' next' behind' wd') := ⟨_, _, _, _, _, H6⟩
          clear H6
          have HFL : Hid (∀ m, Calls Try.prog 19 #[.pointer (some ⟨p, 4, none⟩)] (w2.drewN m) fun e w' => e = .returned (.int .i64 (els (kq'.map (·.1)) : Int)) ∧ w' = w2.drewN m) := fun m => by
            obtain ⟨cu, _, hl, _⟩ := HZ.out.path.cur
            exact flight_led (hl.keep ⟨rfl, rfl, rfl, Nat.le_refl _, fun _ _ => rfl⟩)
          have HOP : Hid (∀ m, Calls Try.prog 12 #[.pointer (some ⟨p, 0, none⟩)] (w2.drewN m) fun e w' => e = .returned (.bool (decide ((els (kq'.map (·.1)) : Int) < wd'.size))) ∧ ∃ q, w' = (w2.drewN m).drewN q) := fun m => open_path (HZ.out.path.keep ⟨rfl, rfl, rfl, Nat.le_refl _, fun _ _ => rfl⟩)
          have hlen : ∀ (m : Nat) (ty : TypeId), (Builtin.len_ #[54] ty #[.map (some b)]).run Try.prog (w2.drewN m) = .ok (.int .i64 (els (kq'.map (·.1)) : Int)) (w2.drewN m) := fun m ty => by
            rw [← tnOf_len]
            exact (HZ.out.told.keep (w' := w2.drewN m) ⟨rfl, rfl, rfl, Nat.le_refl _, fun _ _ => rfl⟩).len ty
          obtain ⟨E, hE⟩ : ∃ x, (els (kq'.map (·.1)) : Int) = x := ⟨_, rfl⟩
          rw [hE] at HFL HOP
          simp only [hE] at hlen
          clear hE
          have hsz : w2.cell? ⟨p, 8, none⟩ = some (.int .i64 wd'.size) := by
            obtain ⟨cu, _, _, hw⟩ := HZ.out.path.cur
            exact hw.cell.1
          obtain ⟨sz, hsz'⟩ : ∃ x, wd'.size = x := ⟨_, rfl⟩
          rw [hsz'] at HOP hsz
          clear hsz'
          have HNX : Hid (∀ m, FlI w (w2.drewN m) p b (j + 1) s' kq' next' behind' wd') := fun m => HZ.out.keep ⟨rfl, rfl, rfl, Nat.le_refl _, fun _ _ => rfl⟩
          clear HZ
          by_cases hlt : E < sz
          · rw [decide_eq_true hlt] at HOP
            go_wp2_with fail
            go_quiet ((first | (go_at_call 19; exact Calls.quiet_of_same (HFL.out _)) | (go_at_call 12; exact Calls.quiet_of (HOP.out _))))
            clear HFL HOP hlen hsz
            go_wp2_with fail
            go_roundw
            case rel => exact ⟨j + 1, b, s', kq', next', behind', wd', by go_num, rfl, by go_num, by omega, HNX.out _⟩
            case measure => simp [intOf]; omega
          · rw [decide_eq_false hlt] at HOP
            go_wp2_with fail
            go_quiet ((first | (go_at_call 19; exact Calls.quiet_of_same (HFL.out _)) | (go_at_call 12; exact Calls.quiet_of (HOP.out _))))
            clear HFL HOP hlen hsz
            go_wp2_with fail
            go_roundw
            case rel => exact ⟨j + 1, b, s', kq', next', behind', wd', by go_num, rfl, by go_num, by omega, HNX.out _⟩
            case measure => simp [intOf]; omega
        · obtain ⟨w3, hw3⟩ : ∃ x, w2.alloc (.map #[] 0) = x := ⟨_, rfl⟩
          obtain ⟨b2, hb2⟩ : ∃ x, w2.heap.size = x := ⟨_, rfl⟩
          have hbel := HK1.out.below.trans hm.below
          have H6 : Hid (FlI w w3 p b2 (j + 1) (Rtt.back s (s.bk + 1)) [] next behind wd) := by
            have hbk := HK1.out.bk
            refine ⟨?_, ?_, by have := hp.lt.2; omega, by have := hbel.size; omega, ?_, Nat.le_succ_of_le HK1.out.nx, ⟨by show 0 ≤ s.bk + 1; omega, by show s.bk + 1 ≤ _; omega⟩, fun x hx => (by cases hx), fun x hx => (by cases hx)⟩
            · rw [← hw3]; exact hp.keep ((Below.refl _ _).alloc (Nat.le_refl _) _)
            · rw [← hw3, ← hb2]; exact (ToldB.new w2).more (Nat.zero_le _)
            · rw [← hw3]; exact hbel.alloc hbel.size _
          clear hp hm hbel HK1
          have hmm := @run_makeMap Try.prog
          go_upto_region 33 with (fail)
          clear hmm
          clear hw3 hb2
          obtain ⟨s', kq', next', behind', wd', HZ⟩ : ∃ s' kq' next' behind' wd', Hid (FlI w w3 p b2 (j + 1) s' kq' next' behind' wd') := ⟨_, _, _, _, _, H6⟩
          clear H6
          have HFL : Hid (∀ m, Calls Try.prog 19 #[.pointer (some ⟨p, 4, none⟩)] (w3.drewN m) fun e w' => e = .returned (.int .i64 (els (kq'.map (·.1)) : Int)) ∧ w' = w3.drewN m) := fun m => by
            obtain ⟨cu, _, hl, _⟩ := HZ.out.path.cur
            exact flight_led (hl.keep ⟨rfl, rfl, rfl, Nat.le_refl _, fun _ _ => rfl⟩)
          have HOP : Hid (∀ m, Calls Try.prog 12 #[.pointer (some ⟨p, 0, none⟩)] (w3.drewN m) fun e w' => e = .returned (.bool (decide ((els (kq'.map (·.1)) : Int) < wd'.size))) ∧ ∃ q, w' = (w3.drewN m).drewN q) := fun m => open_path (HZ.out.path.keep ⟨rfl, rfl, rfl, Nat.le_refl _, fun _ _ => rfl⟩)
          have hlen : ∀ (m : Nat) (ty : TypeId), (Builtin.len_ #[54] ty #[.map (some b2)]).run Try.prog (w3.drewN m) = .ok (.int .i64 (els (kq'.map (·.1)) : Int)) (w3.drewN m) := fun m ty => by
            rw [← tnOf_len]
            exact (HZ.out.told.keep (w' := w3.drewN m) ⟨rfl, rfl, rfl, Nat.le_refl _, fun _ _ => rfl⟩).len ty
          obtain ⟨E, hE⟩ : ∃ x, (els (kq'.map (·.1)) : Int) = x := ⟨_, rfl⟩
          rw [hE] at HFL HOP
          simp only [hE] at hlen
          clear hE
          have hsz : w3.cell? ⟨p, 8, none⟩ = some (.int .i64 wd'.size) := by
            obtain ⟨cu, _, _, hw⟩ := HZ.out.path.cur
            exact hw.cell.1
          obtain ⟨sz, hsz'⟩ : ∃ x, wd'.size = x := ⟨_, rfl⟩
          rw [hsz'] at HOP hsz
          clear hsz'
          have HNX : Hid (∀ m, FlI w (w3.drewN m) p b2 (j + 1) s' kq' next' behind' wd') := fun m => HZ.out.keep ⟨rfl, rfl, rfl, Nat.le_refl _, fun _ _ => rfl⟩
          clear HZ
          by_cases hlt : E < sz
          · rw [decide_eq_true hlt] at HOP
            go_wp2_with fail
            go_quiet ((first | (go_at_call 19; exact Calls.quiet_of_same (HFL.out _)) | (go_at_call 12; exact Calls.quiet_of (HOP.out _))))
            clear HFL HOP hlen hsz
            go_wp2_with fail
            go_roundw
            case rel => exact ⟨j + 1, b2, s', kq', next', behind', wd', by go_num, rfl, by go_num, by omega, HNX.out _⟩
            case measure => simp [intOf]; omega
          · rw [decide_eq_false hlt] at HOP
            go_wp2_with fail
            go_quiet ((first | (go_at_call 19; exact Calls.quiet_of_same (HFL.out _)) | (go_at_call 12; exact Calls.quiet_of (HOP.out _))))
            clear HFL HOP hlen hsz
            go_wp2_with fail
            go_roundw
            case rel => exact ⟨j + 1, b2, s', kq', next', behind', wd', by go_num, rfl, by go_num, by omega, HNX.out _⟩
            case measure => simp [intOf]; omega
      · go_wp2_with fail
        obtain ⟨wa, hwa⟩ : ∃ x, wq.alloc (.cells #[.int .i64 0, .int .i64 0] 29) = x := ⟨_, rfl⟩
        obtain ⟨q1, hq1⟩ : ∃ x, wq.heap.size = x := ⟨_, rfl⟩
        obtain ⟨w5, hw5⟩ : ∃ x, wa.alloc (.cells #[.int .i64 2, .int .i64 0, .int .i64 0, .int .i64 0, .int .i64 0, .int .i64 0, .bool false, .slice none 0 0, .slice (some ⟨q1, 0, none⟩) 1 1] 28) = x := ⟨_, rfl⟩
        rw [hwa, hq1, hw5]
        have hza : wa.heap.size = q1 + 1 := by rw [← hwa, ← hq1]; simp
        have hba : Below wq.heap.size wq wa := hwa ▸ (Below.refl _ _).alloc (Nat.le_refl _) _
        have hb5 : Below wa.heap.size wa w5 := hw5 ▸ (Below.refl _ _).alloc (Nat.le_refl _) _
        have hr1 : Rd wa wa.heap.size (some ⟨q1, 0, none⟩) (1 * 2) [.int .i64 0, .int .i64 0] := by
          rw [← hwa]
          exact rd_new _ _ _ _ _ _ _ hq1.symm (by simp) rfl rfl
        have hr2 : Rd w5 w5.heap.size (some ⟨q1 + 1, 0, none⟩) (1 * 9) (fqs [⟨2, 0, 0, 0, 0, 0, false, none, 0, 0, [], some ⟨q1, 0, none⟩, 1, 1, [.int .i64 0, .int .i64 0]⟩]) := by
          rw [← hw5]
          exact rd_new _ _ _ _ _ _ _ hza.symm (by simp) rfl rfl
        have hf5 : ∀ y ∈ [(⟨2, 0, 0, 0, 0, 0, false, none, 0, 0, [], some ⟨q1, 0, none⟩, 1, 1, [.int .i64 0, .int .i64 0]⟩ : Fq)], FqOk w5 y := fun y hy => by
          obtain rfl := List.mem_singleton.1 hy
          refine ⟨Rd.nil _ _ _, fun u hu => (by cases hu), by show 0 ≤ _; omega, (hr1.below hb5 (Nat.le_refl _)).more hb5.size, fun u hu => ?_, by show 1 ≤ _; omega⟩
          simp only [List.mem_cons, List.not_mem_nil, or_false] at hu
          rcases hu with rfl | rfl <;> rfl
        have HK5 := Lib.hid (HK1.out.keep (hba.trans (hb5.mono hba.size)))
        have HSD := Lib.hid (send_path HK5.out.path ((j : Int) + 1) ⟨by omega, by omega⟩ (some ⟨q1 + 1, 0, none⟩) 1 1 _ rfl hr2 hf5 (by omega) (Nat.le_refl _) (by have := HK5.out.nx; omega))
        clear hwa hq1 hw5 hza hba hb5 hr1 hr2 hf5 HK1 cq0 cq1
        refine HSD.out.mono ?_
        rintro e w6 ⟨rfl, hs⟩
        obtain ⟨kq6, h6⟩ := HK5.out.sent0 hs rfl
        have H6 := Lib.hid h6
        clear hs h6 HSD HK5
        obtain ⟨s', kq', next', behind', wd', HZ⟩ : ∃ s' kq' next' behind' wd', Hid (FlI w w6 p b (j + 1) s' kq' next' behind' wd') := ⟨_, _, _, _, _, H6⟩
        clear H6
        have HFL : Hid (∀ m, Calls Try.prog 19 #[.pointer (some ⟨p, 4, none⟩)] (w6.drewN m) fun e w' => e = .returned (.int .i64 (els (kq'.map (·.1)) : Int)) ∧ w' = w6.drewN m) := fun m => by
          obtain ⟨cu, _, hl, _⟩ := HZ.out.path.cur
          exact flight_led (hl.keep ⟨rfl, rfl, rfl, Nat.le_refl _, fun _ _ => rfl⟩)
        have HOP : Hid (∀ m, Calls Try.prog 12 #[.pointer (some ⟨p, 0, none⟩)] (w6.drewN m) fun e w' => e = .returned (.bool (decide ((els (kq'.map (·.1)) : Int) < wd'.size))) ∧ ∃ q, w' = (w6.drewN m).drewN q) := fun m => open_path (HZ.out.path.keep ⟨rfl, rfl, rfl, Nat.le_refl _, fun _ _ => rfl⟩)
        have hlen : ∀ (m : Nat) (ty : TypeId), (Builtin.len_ #[54] ty #[.map (some b)]).run Try.prog (w6.drewN m) = .ok (.int .i64 (els (kq'.map (·.1)) : Int)) (w6.drewN m) := fun m ty => by
          rw [← tnOf_len]
          exact (HZ.out.told.keep (w' := w6.drewN m) ⟨rfl, rfl, rfl, Nat.le_refl _, fun _ _ => rfl⟩).len ty
        obtain ⟨E, hE⟩ : ∃ x, (els (kq'.map (·.1)) : Int) = x := ⟨_, rfl⟩
        rw [hE] at HFL HOP
        simp only [hE] at hlen
        clear hE
        have hsz : w6.cell? ⟨p, 8, none⟩ = some (.int .i64 wd'.size) := by
          obtain ⟨cu, _, _, hw⟩ := HZ.out.path.cur
          exact hw.cell.1
        obtain ⟨sz, hsz'⟩ : ∃ x, wd'.size = x := ⟨_, rfl⟩
        rw [hsz'] at HOP hsz
        clear hsz'
        have HNX : Hid (∀ m, FlI w (w6.drewN m) p b (j + 1) s' kq' next' behind' wd') := fun m => HZ.out.keep ⟨rfl, rfl, rfl, Nat.le_refl _, fun _ _ => rfl⟩
        clear HZ
        by_cases hlt : E < sz
        · rw [decide_eq_true hlt] at HOP
          go_wp2_with fail
          go_quiet ((first | (go_at_call 19; exact Calls.quiet_of_same (HFL.out _)) | (go_at_call 12; exact Calls.quiet_of (HOP.out _))))
          clear HFL HOP hlen hsz
          go_wp2_with fail
          go_roundw
          case rel => exact ⟨j + 1, b, s', kq', next', behind', wd', by go_num, rfl, by go_num, by omega, HNX.out _⟩
          case measure => simp [intOf]; omega
        · rw [decide_eq_false hlt] at HOP
          go_wp2_with fail
          go_quiet ((first | (go_at_call 19; exact Calls.quiet_of_same (HFL.out _)) | (go_at_call 12; exact Calls.quiet_of (HOP.out _))))
          clear HFL HOP hlen hsz
          go_wp2_with fail
          go_roundw
          case rel => exact ⟨j + 1, b, s', kq', next', behind', wd', by go_num, rfl, by go_num, by omega, HNX.out _⟩
          case measure => simp [intOf]; omega
      · have hM0 : ((M : Int) == 0) = false := by simp; omega
        have hM1 : ((M : Int) == 1) = false := by simp; omega
        have hM2 : ((M : Int) == 2) = false := by simp; omega
        have hM3 : ((M : Int) == 3) = false := by simp; omega
        go_wp2_with fail
        clear hM0 hM1 hM2 hM3 hM4 hM6
        obtain ⟨q1, hq1⟩ : ∃ x, wq.heap.size = x := ⟨_, rfl⟩
        obtain ⟨w5, hw5⟩ : ∃ x, wq.alloc (.cells #[.int .i64 1, .int .i64 0, .int .i64 0, .int .i64 0, .int .i64 0, .int .i64 0, .bool false, .slice none 0 0, .slice none 0 0] 28) = x := ⟨_, rfl⟩
        rw [hq1, hw5]
        have hb5 : Below wq.heap.size wq w5 := hw5 ▸ (Below.refl _ _).alloc (Nat.le_refl _) _
        have hr2 : Rd w5 w5.heap.size (some ⟨q1, 0, none⟩) (1 * 9) (fqs [⟨1, 0, 0, 0, 0, 0, false, none, 0, 0, [], none, 0, 0, []⟩]) := by
          rw [← hw5]
          exact rd_new _ _ _ _ _ _ _ hq1.symm (by simp) rfl rfl
        have hf5 : ∀ y ∈ [(⟨1, 0, 0, 0, 0, 0, false, none, 0, 0, [], none, 0, 0, []⟩ : Fq)], FqOk w5 y := fun y hy => by
          obtain rfl := List.mem_singleton.1 hy
          exact ⟨Rd.nil _ _ _, fun u hu => (by cases hu), by show 0 ≤ _; omega, Rd.nil _ _ _, fun u hu => (by cases hu), by show 0 ≤ _; omega⟩
        have HK5 := Lib.hid (HK1.out.keep hb5)
        have HSD := Lib.hid (send_path HK5.out.path ((j : Int) + 1) ⟨by omega, by omega⟩ (some ⟨q1, 0, none⟩) 1 1 _ rfl hr2 hf5 (by omega) (Nat.le_refl _) (by have := HK5.out.nx; omega))
        clear hq1 hw5 hb5 hr2 hf5 HK1 cq0 cq1
        refine HSD.out.mono ?_
        rintro e w6 ⟨rfl, hs⟩
        obtain ⟨w7, hup, kq6, h6⟩ := HK5.out.sent1 hs rfl (by omega)
        have H6 := Lib.hid h6
        clear hs h6 HSD HK5
        go_upto_region 33 with (fail)
        clear hup
        obtain ⟨s', kq', next', behind', wd', HZ⟩ : ∃ s' kq' next' behind' wd', Hid (FlI w w7 p b (j + 1) s' kq' next' behind' wd') := ⟨_, _, _, _, _, H6⟩
        clear H6
        have HFL : Hid (∀ m, Calls Try.prog 19 #[.pointer (some ⟨p, 4, none⟩)] (w7.drewN m) fun e w' => e = .returned (.int .i64 (els (kq'.map (·.1)) : Int)) ∧ w' = w7.drewN m) := fun m => by
          obtain ⟨cu, _, hl, _⟩ := HZ.out.path.cur
          exact flight_led (hl.keep ⟨rfl, rfl, rfl, Nat.le_refl _, fun _ _ => rfl⟩)
        have HOP : Hid (∀ m, Calls Try.prog 12 #[.pointer (some ⟨p, 0, none⟩)] (w7.drewN m) fun e w' => e = .returned (.bool (decide ((els (kq'.map (·.1)) : Int) < wd'.size))) ∧ ∃ q, w' = (w7.drewN m).drewN q) := fun m => open_path (HZ.out.path.keep ⟨rfl, rfl, rfl, Nat.le_refl _, fun _ _ => rfl⟩)
        have hlen : ∀ (m : Nat) (ty : TypeId), (Builtin.len_ #[54] ty #[.map (some b)]).run Try.prog (w7.drewN m) = .ok (.int .i64 (els (kq'.map (·.1)) : Int)) (w7.drewN m) := fun m ty => by
          rw [← tnOf_len]
          exact (HZ.out.told.keep (w' := w7.drewN m) ⟨rfl, rfl, rfl, Nat.le_refl _, fun _ _ => rfl⟩).len ty
        obtain ⟨E, hE⟩ : ∃ x, (els (kq'.map (·.1)) : Int) = x := ⟨_, rfl⟩
        rw [hE] at HFL HOP
        simp only [hE] at hlen
        clear hE
        have hsz : w7.cell? ⟨p, 8, none⟩ = some (.int .i64 wd'.size) := by
          obtain ⟨cu, _, _, hw⟩ := HZ.out.path.cur
          exact hw.cell.1
        obtain ⟨sz, hsz'⟩ : ∃ x, wd'.size = x := ⟨_, rfl⟩
        rw [hsz'] at HOP hsz
        clear hsz'
        have HNX : Hid (∀ m, FlI w (w7.drewN m) p b (j + 1) s' kq' next' behind' wd') := fun m => HZ.out.keep ⟨rfl, rfl, rfl, Nat.le_refl _, fun _ _ => rfl⟩
        clear HZ
        by_cases hlt : E < sz
        · rw [decide_eq_true hlt] at HOP
          go_wp2_with fail
          go_quiet ((first | (go_at_call 19; exact Calls.quiet_of_same (HFL.out _)) | (go_at_call 12; exact Calls.quiet_of (HOP.out _))))
          clear HFL HOP hlen hsz
          go_wp2_with fail
          go_roundw
          case rel => exact ⟨j + 1, b, s', kq', next', behind', wd', by go_num, rfl, by go_num, by omega, HNX.out _⟩
          case measure => simp [intOf]; omega
        · rw [decide_eq_false hlt] at HOP
          go_wp2_with fail
          go_quiet ((first | (go_at_call 19; exact Calls.quiet_of_same (HFL.out _)) | (go_at_call 12; exact Calls.quiet_of (HOP.out _))))
          clear HFL HOP hlen hsz
          go_wp2_with fail
          go_roundw
          case rel => exact ⟨j + 1, b, s', kq', next', behind', wd', by go_num, rfl, by go_num, by omega, HNX.out _⟩
          case measure => simp [intOf]; omega
    · obtain rfl : j = n := by omega
      have hltI : ¬ (j : Int) < (j : Int) := by omega
      have HB := Lib.hid HK.out.below
      clear HK
      go_wp2_with fail
      go_ret
      exact ⟨rfl, HB.out⟩
end Go.Proofs.Ytebfjphmlggacaa.Pa
