/- The ledger's Ack: a contract. Conditions: as each theorem lists them. -/
import Derived.Test.YtebfjphmlggacaaJLj
import Derived.Deep.RegionHeld3
set_option linter.unusedSimpArgs false
set_option linter.unusedVariables false

namespace Go.Proofs.Ytebfjphmlggacaa.Ld
open Go Go.RowKit Go.Proofs.Ytebfjphmlggacaa Go.Proofs.Ytebfjphmlggacaa.Sp

theorem infoSet : (Try.prog.info? 87).map (fun i => (i.zero, i.size, i.bytes)) = some (some (.agg #[.slice none 0 0]), 1, 24) := by kernel_rfl

/-- What Ack tells, and leaves. -/
def AckP (w : World) (lo p o : Nat) (T : TypeId) (cur : Array Value) (ks : List Pk) (next behind : Nat) (rs : List (Int × Int)) (e : Ending) (w' : World) : Prop :=
  ((∃ r ∈ rs, (next : Int) ≤ r.2) ∧ e = .returned (.tuple #[.slice none 0 0, .int .i64 2]) ∧ Below w.heap.size w w') ∨
  ((∀ r ∈ rs, r.2 < (next : Int)) ∧ ∃ A n c cur', e = .returned (.tuple #[.slice A n c, .int .i64 0]) ∧ n = (ks.filter fun k => ranB rs k.num).length ∧ w'.ownsRow w.heap.size 63 4 (.slice A n c) n (pks (ks.filter fun k => ranB rs k.num)) ∧
    Led w' lo p o T cur' (ks.filter fun k => !ranB rs k.num) next (behF behind rs) ∧ CurSame o cur cur' ∧ Moved lo p w w')

set_option maxRecDepth 100000 in
set_option maxHeartbeats 8000000 in
theorem ack_led (w : World) (lo p o : Nat) (T : TypeId) (cur : Array Value) (ks : List Pk) (next behind : Nat) (h : Led w lo p o T cur ks next behind) (hn : next ≤ 1800000000000) (rs : List (Int × Int)) (hm : rs.length ≤ 1000000) (A : Option Addr) (c : Nat) (hc : rs.length ≤ c) (hrd : Rd w w.heap.size A (rs.length * 2) (ints (pl rs))) :
    Calls Try.prog 23 #[.pointer (some ⟨p, o, none⟩), .slice A rs.length c] w fun e w' => AckP w lo p o T cur ks next behind rs e w' := by
  obtain ⟨m, hmm⟩ : ∃ m, Hid (rs.length = m) := ⟨_, rfl⟩
  rw [hmm.out] at hm hc hrd ⊢
  have H := Lib.hid h
  have HRD := Lib.hid hrd
  have hnI : (next : Int) ≤ 1800000000000 := by omega
  have hmI : (m : Int) ≤ 1000000 := by omega
  have hmc : (m : Int) ≤ (c : Int) := by omega
  have hbn : behind ≤ next := h.behind_le
  have hcb : w.cell? ⟨p, o + 2, none⟩ = some (.int .i64 (behind : Int)) := by
    obtain ⟨os, h1, h2⟩ := h.led
    exact h1.cell.2.1
  obtain ⟨i0, hi, hz0, hz1, hz2⟩ := info_parts infoSet
  have hmk := fun W => run_make (P := Try.prog) W 85 87 i0 (.agg #[.slice none 0 0]) Try.underlying85 hi hz0 .i64 .i64 (m : Int) (m : Int) (by omega) (by omega) (by rw [hz2]; omega) (by omega)
  simp only [hz1, Int.toNat_natCast] at hmk
  clear h hrd hi hz0 hz1 hz2
  go_enter Try.func23, Try.ntmps23
  go_wp2_with fail
  obtain ⟨q, hq⟩ : ∃ q, Hid (w.heap.size = q) := ⟨_, rfl⟩
  obtain ⟨w0, hw0⟩ : ∃ x, w.alloc (Obj.cells (madeCells #[Value.slice none 0 0] m) 87) = x := ⟨_, rfl⟩
  rw [hw0, hq.out]
  have HB0 : Hid (Below w.heap.size w w0) := by rw [← hw0]; exact (Below.refl _ _).alloc (Nat.le_refl _) _
  have HR0 : Hid (RunsIn w0 w.heap.size q m 0 (madeCells #[Value.slice none 0 0] m) rs) := by
    refine RunsIn.zero (Nat.le_of_eq hq.out) (by rw [size_madeCells]) (by rw [← hw0, ← hq.out]; exact heap_alloc_new _ _) fun i hi => ?_
    rw [← Array.getElem?_toList, toList_madeCells_one, List.getElem?_replicate, if_pos hi]
  clear hw0 hcb hmk
  go_loopw [4, 6, 22] (fun d v i wr => ∃ j bh : Nat, d = .slice none 0 0 ∧ v = .int .i64 (bh : Int) ∧ i = .int .i64 (j : Int) ∧ j ≤ m ∧ bh ≤ 1800000000000 ∧ Hid (bh = behF behind (rs.take j) ∧ (∀ r ∈ rs.take j, r.2 < (next : Int)) ∧ (∃ cur1, RunsIn wr w.heap.size q m j cur1 rs) ∧ Below w.heap.size w wr)) (fun _ _ i _ => m - (intOf i).toNat)
  case atStart => exact ⟨0, behind, rfl, rfl, rfl, Nat.zero_le _, by omega, rfl, (fun r hr => by simp at hr), ⟨_, HR0.out⟩, HB0.out⟩
  case round =>
    obtain ⟨j, bh, rfl, rfl, rfl, hj, hbh, HK⟩ := hrel
    clear HR0 HB0
    have hbhI : (bh : Int) ≤ 1800000000000 := by omega
    by_cases hlt : j < m
    · have hltI : (j : Int) < (m : Int) := by omega
      obtain ⟨b, off, hA, hb, hcs⟩ := HRD.out.2 (by omega)
      subst hA
      have hj' : j < rs.length := by rw [hmm.out]; exact hlt
      rcases hxy : rs[j]'hj' with ⟨x, y⟩
      have hrk : rs[j]? = some (x, y) := by rw [List.getElem?_eq_getElem hj', hxy]
      have hg := pl_get0 rs j (x, y) hrk
      have HRK := Lib.hid hrk
      have HGD : Hid (rs.getD j (0, 0) = (x, y)) := by show _ = _; simp [List.getD, hrk]
      have hcx : wr.cell? ⟨b, off + j * 2, none⟩ = some (.int .i64 x) := by
        rw [HK.out.2.2.2.cell (p := ⟨b, off + j * 2, none⟩) hb, show off + j * 2 = off + 2 * j by omega, hcs (2 * j) _ (ints_get _ _ (by rw [pl_len]; omega)), hg.1]
      have hcy : wr.cell? ⟨b, off + j * 2 + 1, none⟩ = some (.int .i64 y) := by
        rw [HK.out.2.2.2.cell (p := ⟨b, off + j * 2 + 1, none⟩) hb, show off + j * 2 + 1 = off + (2 * j + 1) by omega, hcs (2 * j + 1) _ (ints_get _ _ (by rw [pl_len]; omega)), hg.2]
      have nb := World.new_ne wr _ hcx
      obtain ⟨cur1, hru⟩ := HK.out.2.2.1
      have HRU0 := Lib.hid hru
      have HJ1 : Hid (j < m) := hlt
      clear hg hcs hxy hj' hrk hru
      go_wp2_with fail
      obtain ⟨w1, hw1⟩ : ∃ x', wr.alloc (Obj.cells #[Value.int IntKind.i64 x, Value.int IntKind.i64 y] 29) = x' := ⟨_, rfl⟩
      rw [hw1]
      obtain ⟨bo, hbo⟩ : ∃ x', Hid (wr.heap.size = x') := ⟨_, rfl⟩
      have hb1 : Below wr.heap.size wr w1 := by rw [← hw1]; exact (Below.refl _ _).alloc (Nat.le_refl _) _
      have hk1 : w1.heap[wr.heap.size]? = some (.cells #[.int .i64 x, .int .i64 y] 29 (0, 0)) := by rw [← hw1]; exact heap_alloc_new wr _
      rw [hbo.out] at hk1 ⊢
      have d0 := cell_of_row w1 bo 0 _ _ _ hk1
      have d1 := cell_of_row w1 bo 1 _ _ _ hk1
      simp only [List.getElem?_toArray, List.getElem?_cons_zero, List.getElem?_cons_succ] at d0 d1
      have hbw : Below w.heap.size w w1 := HK.out.2.2.2.trans (hb1.mono HK.out.2.2.2.size)
      have dn : w1.cell? ⟨p, o + 1, none⟩ = some (.int .i64 (next : Int)) := by
        obtain ⟨os, h1, h2⟩ := H.out.led
        exact (hbw.cell (p := ⟨p, o + 1, none⟩) h1.hhi).trans h1.cell.1
      have HK1 := Lib.hid hk1
      have HBW0 := Lib.hid hbw
      have HRU1 := Lib.hid (HRU0.out.keep hb1)
      have hbq : ¬ bo = q := by have := lt_of_block HRU0.out.blk; have := hbo.out; omega
      clear hw1 hb1 hk1 hbw hcx hcy nb HRU0
      go_quiet (fail)
      obtain ⟨w2, hw2⟩ : ∃ x', w1.drewN nq = x' := ⟨_, rfl⟩
      rw [hw2]
      have d0 : w2.cell? ⟨bo, 0, none⟩ = some (.int .i64 x) := by rw [← hw2]; exact d0
      have d1 : w2.cell? ⟨bo, 1, none⟩ = some (.int .i64 y) := by rw [← hw2]; exact d1
      have HK2 : Hid (w2.heap[bo]? = some (.cells #[.int .i64 x, .int .i64 y] 29 (0, 0))) := by rw [← hw2]; exact HK1.out
      have HBW : Hid (Below w.heap.size w w2) := by rw [← hw2]; exact HBW0.out.trans (Below.drewN' _ _ _)
      have HRU : Hid (RunsIn w2 w.heap.size q m j cur1 rs) := by rw [← hw2]; exact HRU1.out.keep (Below.drewN' _ _ _)
      have HSZ : Hid (w.heap.size ≤ w2.heap.size) := HBW.out.size
      clear hw2 HRU1 HBW0 HK1 dn
      by_cases hbad : (next : Int) ≤ y
      · go_wp2_with fail
        go_ret2
        exact .inl ⟨⟨(x, y), List.mem_of_getElem? HRK.out, hbad⟩, rfl, HBW.out⟩
      · have HTK : Hid (∀ r ∈ rs.take (j + 1), r.2 < (next : Int)) := fun r hr => by
          rw [take_snoc HRK.out, List.mem_append] at hr
          rcases hr with hr | hr
          · exact HK.out.2.1 r hr
          · simp only [List.mem_cons, List.not_mem_nil, or_false] at hr
            subst hr
            show y < _
            omega
        have skip : hasN (x, y) = false → Hid (bh = behF behind (rs.take (j + 1)) ∧ (∀ r ∈ rs.take (j + 1), r.2 < (next : Int)) ∧ (∃ cur1, RunsIn w2 w.heap.size q m (j + 1) cur1 rs) ∧ Below w.heap.size w w2) := fun hh => by
          refine ⟨?_, HTK.out, ⟨_, HRU.out.skip (by rw [HGD.out]; exact hh)⟩, HBW.out⟩
          rw [take_snoc HRK.out, behF_snoc, ← HK.out.1, hh]
          rfl
        have SK := Lib.hid skip
        clear skip
        by_cases hx0 : 0 ≤ x
        · by_cases hxy : x ≤ y
          · have HHN : Hid (hasN (x, y) = true) := by show _ = _; simp [hasN, hx0, hxy]
            have HRE : Hid (runE (x, y) = turn [] x (y + 1) true) := by show _ = _; unfold runE; rw [HHN.out, if_pos rfl]
            have HBF : Hid (bh = behF behind (rs.take j)) := HK.out.1
            have hj1 := HJ1.out
            have HLW : Hid (w.heap.size ≤ w2.drew.heap.size) := HSZ.out
            have HS : Hid (∀ W, Below w2.heap.size w2 W → W.cell? ⟨bo, 0, none⟩ = some (.int .i64 x) ∧ W.cell? ⟨bo, 1, none⟩ = some (.int .i64 y)) := fun W hW => by
              have hl := lt_of_block HK2.out
              exact ⟨(hW.cell (p := ⟨bo, 0, none⟩) hl).trans d0, (hW.cell (p := ⟨bo, 1, none⟩) hl).trans d1⟩
            have HADD : Hid (∀ W, Below w2.heap.size w2 W → Calls Try.prog 40 #[.pointer (some ⟨q, j, none⟩), .int .i64 x, .int .i64 (y + 1)] W fun e w' => e = .returned (.tuple #[]) ∧ (∃ v, SetIn w' q j 87 (cur1.setIfInBounds j v) (turn [] x (y + 1) true) ∧ NewV W v) ∧ W.grownBy w' (some q)) := fun W hW => by
              have hs := (HRU.out.keep hW).sets j hj1
              rw [if_neg (by omega)] at hs
              exact add_any2 [] q j _ cur1 x (y + 1) W hs (by decide) (by unfold clamp; omega)
            have hyI : y ≤ 1800000000000 := by omega
            have s1 : IntKind.i64.wrap (y + 1) = y + 1 := IntWalk.i64_in _ (by omega)
            clear SK
            go_wp2_with fail
            refine wp_region_held_drew (S := fun W => W.cell? ⟨bo, 0, none⟩ = some (.int .i64 x) ∧ W.cell? ⟨bo, 1, none⟩ = some (.int .i64 y)) (by kernel_rfl) ?_ (fun hHeld => ?_)
            · exact HS.out _ (Below.refl _ _).drew
            refine wpAnyH_take (i := 0) (v := ?_) rfl (by kernel_rfl) (by kernel_rfl) (by kernel_rfl) (fun _ _ _ h => h) (Or.inl ⟨by rfl, ?_⟩) (by assumption) ?_
            rotate_left
            · intro w hSw; (try dsimp only at hSw); go_simp; try with_reducible rfl
            go_simp
            refine wpAnyH_take (i := 1) (v := ?_) rfl (by kernel_rfl) (by kernel_rfl) (by kernel_rfl) (fun _ _ _ h => h) (Or.inl ⟨by rfl, ?_⟩) (by assumption) ?_
            rotate_left
            · intro w hSw; (try dsimp only at hSw); go_simp; try with_reducible rfl
            go_simp
            refine wpAnyH_take (i := 2) (v := ?_) rfl (by kernel_rfl) (by kernel_rfl) (by kernel_rfl) (fun _ _ _ h => h) (Or.inl ⟨by rfl, ?_⟩) (by assumption) ?_
            rotate_left
            · intro w hSw; (try dsimp only at hSw); go_simp; try with_reducible rfl
            go_simp
            refine wpAnyH_take (i := 3) (v := ?_) rfl (by kernel_rfl) (by kernel_rfl) (by kernel_rfl) (fun _ _ _ h => h) (Or.inl ⟨by rfl, ?_⟩) (by assumption) ?_
            rotate_left
            · intro w hSw; (try dsimp only at hSw); go_simp; try with_reducible rfl
            go_simp
            refine wpAnyH_take (i := 4) (v := ?_) rfl (by kernel_rfl) (by kernel_rfl) (by kernel_rfl) (fun _ _ _ h => h) (Or.inl ⟨by rfl, ?_⟩) (by assumption) ?_
            rotate_left
            · intro w hSw; (try dsimp only at hSw); go_simp; try with_reducible rfl
            go_simp
            refine wpAnyH_take (i := 5) (v := ?_) rfl (by kernel_rfl) (by kernel_rfl) (by kernel_rfl) (fun _ _ _ h => h) (Or.inl ⟨by rfl, ?_⟩) (by assumption) ?_
            rotate_left
            · intro w hSw; (try dsimp only at hSw); go_simp; try with_reducible rfl
            go_simp
            refine wpAnyH_take (i := 6) (v := ?_) rfl (by kernel_rfl) (by kernel_rfl) (by kernel_rfl) (fun _ _ _ h => h) (Or.inl ⟨by rfl, ?_⟩) (by assumption) ?_
            rotate_left
            · intro w hSw; (try dsimp only at hSw); go_simp; try with_reducible rfl
            go_simp
            refine wpAnyH_take (i := 7) (v := ?_) rfl (by kernel_rfl) (by kernel_rfl) (by kernel_rfl) (fun _ _ _ h => h) (Or.inl ⟨by rfl, ?_⟩) (by assumption) ?_
            rotate_left
            · intro w hSw; (try dsimp only at hSw); go_simp; try with_reducible rfl
            go_simp
            refine wpAnyH_ready (rs := [8]) (by kernel_rfl) (by simp) ?_
            refine AllReadyH.cons rfl (fun K hK => ?_) AllReadyH.nil
            go_simp
            refine (HADD.out _ (Below.refl _ _).drew).mono ?_
            rintro e w9 ⟨rfl, ⟨v9, hs9, hv9⟩, hg9⟩
            have HR9 : Hid (RunsIn w9 w.heap.size q m (j + 1) (cur1.setIfInBounds j v9) rs) := (HRU.out.keep (Below.refl _ _).drew).add hj1 v9 hv9 HLW.out (by rw [HGD.out, HRE.out]; exact hs9) hg9
            have HG9 := Lib.hid hg9
            have HS9 : Hid (w9.cell? ⟨bo, 0, none⟩ = some (.int .i64 x) ∧ w9.cell? ⟨bo, 1, none⟩ = some (.int .i64 y)) := ⟨hg9.cell (a := ⟨bo, 0, none⟩) d0 (by simp; exact hbq), hg9.cell (a := ⟨bo, 1, none⟩) d1 (by simp; exact hbq)⟩
            clear hs9 hv9 hg9
            refine hK.out _ _ ?_ (fun hHeld => ?_)
            · exact HS9.out
            clear hK K
            go_simp
            refine wpAnyH_done (by kernel_rfl) ?_ _
            have e1 := HS9.out.2
            have hy1 : y + 1 ≤ 1800000000000 := by omega
            go_wp2_with fail
            have hmx : max (bh : Int) (y + 1) = ((max bh (y.toNat + 1) : Nat) : Int) := by omega
            have hbh' : max bh (y.toNat + 1) ≤ 1800000000000 := by omega
            rw [hmx]
            clear hmx
            have HB9 : Hid (Below w.heap.size w w9) := HBW.out.trans ((Below.refl _ _).drew.grown HG9.out (Nat.le_trans HSZ.out (Nat.le_refl _)) (fun g hg => by simp at hg; subst hg; exact HRU.out.hlw))
            have HN' : Hid (max bh (y.toNat + 1) = behF behind (rs.take (j + 1)) ∧ (∀ r ∈ rs.take (j + 1), r.2 < (next : Int)) ∧ (∃ cur1, RunsIn w9 w.heap.size q m (j + 1) cur1 rs) ∧ Below w.heap.size w w9) := by
              refine ⟨?_, HTK.out, ⟨_, HR9.out⟩, HB9.out⟩
              rw [take_snoc HRK.out, behF_snoc, ← HBF.out, HHN.out, if_pos rfl]
            go_wp2_with fail
            refine ⟨⟨j + 1, _, rfl, rfl, by go_num, by omega, hbh', HN'⟩, ?_⟩
            simp [intOf]; omega
          · have hn := SK.out (by simp [hasN, hxy])
            clear SK
            go_wp2_with fail
            refine ⟨⟨j + 1, bh, rfl, rfl, by go_num, by omega, hbh, hn⟩, ?_⟩
            simp [intOf]; omega
        · have hn := SK.out (by simp [hasN, hx0])
          clear SK
          go_wp2_with fail
          refine ⟨⟨j + 1, bh, rfl, rfl, by go_num, by omega, hbh, hn⟩, ?_⟩
          simp [intOf]; omega
    · have hltI : ¬ (j : Int) < (m : Int) := by omega
      obtain rfl : j = m := by omega
      obtain ⟨hk1, hk2, ⟨cur1, hru⟩, hbw⟩ := HK.out
      clear HK
      rw [List.take_of_length_le (by rw [hmm.out]; exact Nat.le_refl _)] at hk1 hk2
      have HALL : Hid (∀ r ∈ rs, r.2 < (next : Int)) := hk2
      have HBH : Hid (bh = behF behind rs) := hk1
      have hbn : bh ≤ next := by rw [hk1]; exact behF_le _ _ _ hbn hk2
      obtain ⟨os, hled, hos⟩ := (H.out.keep hbw).led
      have hL4 := hled.setBehind bh hbn (.int .i64 (bh : Int)) rfl
      have hf4 := hled.free (o + 2)
      have hc4 := hled.cell.2.1
      obtain ⟨w4, hw4⟩ : ∃ x, wr.setCell ⟨p, o + 2, none⟩ (.int .i64 (bh : Int)) = x := ⟨_, rfl⟩
      have hg4 : wr.grownBy w4 (some p) := by rw [← hw4]; exact grown_of (Below.refl _ _) p _ _
      have hru4 := hru.below hg4 H.out.lt.2
      have hL4' : Led w4 lo p o T (cur.setIfInBounds (o + 2) (.int .i64 (bh : Int))) ks next bh := by rw [← hw4]; exact ⟨os, hL4.more (by simp [World.setCell]) (Nat.le_refl _), hos⟩
      have hm4 : Moved lo p w w4 := by rw [← hw4]; exact (Moved.of hbw (Nat.le_trans H.out.lt.1 (Nat.le_of_lt H.out.lt.2))).setP H.out.lt.1 _ _
      obtain ⟨ss, hs1, hs2, hs3, hs4, hs5⟩ := hru4.out hmm.out.symm
      have hz4 : wr.heap.size = w4.heap.size := by rw [← hw4]; simp [World.setCell]
      have HUN := Lib.hid (union_any ss w4.heap.size (some ⟨q, 0, none⟩) j w4 (by rw [hs1]; exact hs2) (Nat.le_refl _) (by omega) (by omega) hs3 (by omega))
      rw [hs1] at HUN
      have HU5 : Hid (∀ n, (ss.any fun s => mem s.1 n) = ranB rs n) := fun n => by
        rw [hs5]
        unfold ranB
        rw [Bool.eq_iff_iff, List.any_eq_true, List.any_eq_true]
        constructor
        · rintro ⟨r, hr, h⟩
          exact ⟨r, hr, by rw [← runE_mem r (by have := HALL.out r hr; omega)]; exact h⟩
        · rintro ⟨r, hr, h⟩
          exact ⟨r, hr, by rw [runE_mem r (by have := HALL.out r hr; omega)]; exact h⟩
      have HL4 := Lib.hid hL4'
      have HM4 := Lib.hid hm4
      have HS4 : Hid ((allRuns ss).length ≤ 1000000) := by show _ ≤ _; omega
      clear hled hL4 hg4 hru4 hL4' hm4 hs2 hs3 hs5 hs1 hs4 hz4 hk1 hk2 hru hbw
      go_wp2_with fail
      clear hw4
      refine (HUN.out).mono ?_
      rintro e w5 ⟨es, A5, c5, rfl, hsv, hmem, hlen, hb5⟩
      have HSV := Lib.hid hsv
      have HMEM : Hid (∀ n, mem es n = ranB rs n) := fun n => by rw [hmem, HU5.out]
      have HLEN : Hid (es.length ≤ 2000000) := by have := HS4.out; show _ ≤ _; omega
      have HB5 := Lib.hid hb5
      clear hsv hmem hlen hb5 HU5 HUN hc4 hf4
      have hb6 : Below w5.heap.size w5 (w5.alloc (.cells #[.slice A5 es.length c5] 87)) := (Below.refl _ _).alloc (Nat.le_refl _) _
      have hc6 : (w5.alloc (.cells #[.slice A5 es.length c5] 87)).cell? ⟨w5.heap.size, 0, none⟩ = some (.slice A5 es.length c5) := cell_of_one (heap_alloc_new _ _)
      have hz6 : (w5.alloc (.cells #[.slice A5 es.length c5] 87)).heap.size = w5.heap.size + 1 := World.size_alloc _ _
      obtain ⟨w6, hw6⟩ : ∃ x, w5.alloc (.cells #[.slice A5 es.length c5] 87) = x := ⟨_, rfl⟩
      rw [hw6] at hb6 hc6 hz6
      obtain ⟨m2, hm2⟩ : ∃ x, Hid (es.length / 2 = x) := ⟨_, rfl⟩
      have HSP := Lib.hid (spans_any es w6.heap.size w5.heap.size 0 A5 c5 w6 hc6 ((HSV.out.2.2.2.below hb6 (Nat.le_refl _)).more hb6.size) (Nat.le_refl _) HSV.out.1.2.1 (by have := HLEN.out; omega) HSV.out.2.1)
      rw [hm2.out] at HSP
      have HB6 := Lib.hid hb6
      clear hb6 hc6 hz6
      go_wp2_with fail
      clear hw6
      refine (HSP.out).mono ?_
      rintro e w7 ⟨v7, rfl, ho7, hb7⟩
      obtain ⟨A7, c7, e7, hc7, _, _, hrd7⟩ := own_form ho7
      subst e7
      have HO7 := Lib.hid ho7
      have HR7 := Lib.hid hrd7
      have h47 : Below w4.heap.size w4 w7 := HB5.out.trans ((HB6.out.mono HB5.out.size).trans (hb7.mono (Nat.le_trans HB5.out.size HB6.out.size)))
      have HL7 := Lib.hid (HL4.out.keep h47)
      have HM7 : Hid (Moved lo p w w7) := HM4.out.trans (Moved.of h47 (Nat.le_trans HL4.out.lt.1 (Nat.le_of_lt HL4.out.lt.2)))
      have HZ7 : Hid (w6.heap.size ≤ w7.heap.size ∧ w.heap.size ≤ w6.heap.size) := ⟨hb7.size, by have := HM4.out.below.size; have := HB5.out.size; have := HB6.out.size; omega⟩
      have hm2c : (m2 : Int) ≤ (c7 : Int) := by omega
      have HM2 : Hid (es.length = 2 * m2) := by have := HSV.out.1.2.1; have := hm2.out; show _ = _; omega
      have hm2I : (m2 : Int) ≤ 1000000 := by have := HM2.out; have := HLEN.out; omega
      clear ho7 hrd7 h47 hb7 HSP HB6 HB5 HL4 HM4
      obtain ⟨i1, hi, hz0, hz1, hz2⟩ := info_parts infoS
      have HI := Lib.hid (And.intro hi (And.intro hz0 (And.intro hz1 hz2)))
      clear hi hz0 hz1 hz2
      have HKN : Hid (ks.length ≤ 1800000000000) := by have := H.out.len; show _ ≤ _; omega
      have HRI := Lib.hid H.out.rising.1
      have HPQ : Hid (p < w6.heap.size) := by have := H.out.lt.2; have := HZ7.out.2; show _ < _; omega
      have HP7 : Hid (w7.heap.size ≤ w7.heap.size ∧ lo ≤ w7.heap.size) := ⟨Nat.le_refl _, Nat.le_trans HL7.out.lt.1 (Nat.le_of_lt HL7.out.lt.2)⟩
      clear HR7
      go_wp2_with fail
      go_loopw [4, 67] (fun v i wr => ∃ j2 L : Nat, i = .int .i64 (j2 : Int) ∧ j2 ≤ m2 ∧ L ≤ 1800000000000 ∧ (∃ A3 c3, v = .slice A3 L c3) ∧ Hid (L = (ks.filter (inE es j2)).length ∧ wr.ownsRow w7.heap.size 63 4 v L (pks (ks.filter (inE es j2))) ∧ Moved lo p w7 wr ∧ ∃ cur', LedH wr lo w7.heap.size p o T cur' (ks.filter fun k => !inE es j2 k) next bh ∧ CurSame o cur cur')) (fun _ i _ => m2 - (intOf i).toNat)
      case atStart =>
        have h0 := inE_zero es ks
        exact ⟨0, 0, rfl, Nat.zero_le _, by omega, ⟨_, _, rfl⟩, by rw [h0.1]; rfl, by rw [h0.1]; exact own_nil _ _ _ _, Moved.refl _ _ _, _, by rw [h0.2]; exact HL7.out.h, (CurSame.refl _ _).set (o + 2) (by omega) _⟩
      case round =>
        obtain ⟨j2, L, rfl, hj2, hL, ⟨A3, c3, rfl⟩, HK⟩ := hrel
        obtain ⟨hk1, hk2, hk3, curx, hk4, hk5⟩ := HK.out
        clear HK
        by_cases hlt : j2 < m2
        · have hltI : (j2 : Int) < (m2 : Int) := by omega
          have hown := own_moved HO7.out hk3 HPQ.out (by decide)
          obtain ⟨_, _, e0, _, _, _, hrd⟩ := own_form hown
          simp only [Value.slice.injEq, true_and] at e0
          obtain ⟨rfl, rfl⟩ := e0
          obtain ⟨b, off, hA, hb, hcs⟩ := hrd.2 (by omega)
          subst hA
          have hpl : (prs es).length = m2 := by rw [prs_len es HSV.out.1.2.1]; exact hm2.out
          have hj' : j2 < (prs es).length := by omega
          rcases hxy : (prs es)[j2]'hj' with ⟨x, y⟩
          have hrk : (prs es)[j2]? = some (x, y) := by rw [List.getElem?_eq_getElem hj', hxy]
          have hg := pl_get0 (prs es) j2 (x, y) hrk
          rw [pl_prs es HSV.out.1.2.1] at hg
          have hro := prs_ok HSV.out.1 (x, y) (List.mem_of_getElem? hrk)
          obtain ⟨hx0, hxlt, _⟩ := hro
          have hx0 : 0 ≤ x := hx0
          have hxlt : x < y := hxlt
          have hyn : y ≤ (next : Int) := by
            have h1 : mem es (y - 1) = true := by
              rw [mem_prs es HSV.out.1.1 HSV.out.1.2.1, List.any_eq_true]
              refine ⟨(x, y), List.mem_of_getElem? hrk, ?_⟩
              simp [inRun]; omega
            rw [HMEM.out] at h1
            unfold ranB at h1
            rw [List.any_eq_true] at h1
            obtain ⟨r, hr, hr2⟩ := h1
            have := HALL.out r hr
            simp [inB] at hr2
            omega
          obtain ⟨a, rfl⟩ := Int.eq_ofNat_of_zero_le hx0
          have hst := step_led HSV.out.1 j2 (by have := HM2.out; omega) ks HRI.out a y hg.1 hg.2
          have hcx : wr.cell? ⟨b, off + j2 * 2, none⟩ = some (.int .i64 (a : Int)) := by
            rw [show off + j2 * 2 = off + 2 * j2 by omega, hcs (2 * j2) _ (ints_get _ _ (by have := HM2.out; omega)), hg.1]
          have hcy : wr.cell? ⟨b, off + j2 * 2 + 1, none⟩ = some (.int .i64 y) := by
            rw [show off + j2 * 2 + 1 = off + (2 * j2 + 1) by omega, hcs (2 * j2 + 1) _ (ints_get _ _ (by have := HM2.out; omega)), hg.2]
          have hb8 : Below wr.heap.size wr (wr.alloc (.cells #[.int .i64 (a : Int), .int .i64 y] 29)) := (Below.refl _ _).alloc (Nat.le_refl _) _
          have hsz8 : w7.heap.size ≤ wr.heap.size := hk3.below.size
          have hLV := leave_ledh (hk4.keep (hb8.mono hsz8)) hn a y hyn (by omega) (by omega)
          obtain ⟨n9, hn9⟩ : ∃ n, Hid (((ks.filter fun k => !inE es j2 k).filter (selB a y fun _ => true)).length = n) := ⟨_, rfl⟩
          rw [hn9.out, hst.1, hst.2.1] at hLV
          rw [hst.1] at hn9
          have HLV := Lib.hid hLV
          have HST := Lib.hid hst.2.2
          have HB8 := Lib.hid hb8
          have HK1 := Lib.hid hk1
          have HK2 := Lib.hid hk2
          have HK3 := Lib.hid hk3
          have HK5 := Lib.hid hk5
          have HSZ8 := Lib.hid hsz8
          have HLN : Hid (L + n9 = (ks.filter (inE es (j2 + 1))).length ∧ L + n9 ≤ 1800000000000) := by
            have e : L + n9 = (ks.filter (inE es (j2 + 1))).length := by rw [← HST.out, List.length_append, HK1.out, hn9.out]
            have := List.length_filter_le (inE es (j2 + 1)) ks
            have := HKN.out
            exact ⟨e, by omega⟩
          have nb := World.new_ne wr _ hcx
          clear hLV hst hb8 hk1 hk2 hk3 hk5 hk4 hg hcs hown hrd hrk hxy hsz8
          go_wp2_with fail
          refine (HLV.out).mono ?_
          rintro e w9 ⟨A9, c9, cur9, rfl, ho9, hl9, hs9, hm9⟩
          obtain ⟨_, _, e0, _, _, _, hrd9⟩ := own_form ho9
          simp only [Value.slice.injEq, true_and] at e0
          obtain ⟨rfl, rfl⟩ := e0
          have hp7 : p < w7.heap.size := by have := HL7.out.lt.2; exact this
          have HD : Hid (w9.ownsRow w7.heap.size 63 4 (.slice A3 L c3) L (pks (ks.filter (inE es j2)))) := own_moved (own_below HK2.out HB8.out) hm9 hp7 (by decide)
          have HR9 := Lib.hid hrd9
          have hz9 : w7.heap.size ≤ w9.heap.size := Nat.le_trans HSZ8.out (Nat.le_trans HB8.out.size hm9.below.size)
          have HZ9 := Lib.hid hz9
          have hd2 : Hid (L + n9 ≤ maxLen) := by have := HLN.out.2; show _ ≤ _; unfold maxLen; omega
          have hd3 : Hid ((L + n9) * 48 ≤ 140737488355328) := by have := HLN.out.2; show _ ≤ _; omega
          have HL9 := Lib.hid hl9
          have HM9 : Hid (Moved lo p w7 w9) := (HK3.out.upper (HB8.out.mono HSZ8.out) HP7.out.2).trans hm9
          have HS9 : Hid (CurSame o cur cur9) := HK5.out.trans hs9
          clear ho9 hl9 hs9 hm9 hrd9 hz9 HLV hcx hcy nb
          go_wp2_with (at_builtin; refine wpList_app _ rfl (.tmp 71) (.tmp 77) 64 rfl w7.heap.size 63 i1 (.agg #[.int .i64 0, .int .i64 0, .bool false, .slice none 0 0]) 4 48 Try.underlying64 HI.out.1 HI.out.2.1 HI.out.2.2.1 HI.out.2.2.2 rfl (by decide) (.slice A3 L c3) L (pks (ks.filter (inE es j2))) rfl HD.out w9.heap.size A9 n9 c9 (pks (ks.filter fun k => inRun (k.num : Int) ((a : Int), y))) rfl HR9.out (ones_pks _) hd2.out hd3.out HZ9.out ?_)
          intro v10 w10 ho10 hg10
          obtain ⟨A10, c10, e10, _⟩ := own_form ho10
          subst e10
          have hb10 : Below w7.heap.size w9 w10 := (Below.refl _ _).grown hg10 HZ9.out (fun g hg => (HD.out.lt g hg).1)
          rw [← pks_app, HST.out] at ho10
          have HN' : Hid (L + n9 = (ks.filter (inE es (j2 + 1))).length ∧ w10.ownsRow w7.heap.size 63 4 (.slice A10 (L + n9) c10) (L + n9) (pks (ks.filter (inE es (j2 + 1)))) ∧ Moved lo p w7 w10 ∧ ∃ cur', LedH w10 lo w7.heap.size p o T cur' (ks.filter fun k => !inE es (j2 + 1) k) next bh ∧ CurSame o cur cur') :=
            ⟨HLN.out.1, ho10, HM9.out.upper hb10 HP7.out.2, cur9, HL9.out.keep hb10, HS9.out⟩
          have hLL := HLN.out.2
          clear ho10 hg10 hb10
          go_wp2_with fail
          refine ⟨⟨j2 + 1, L + n9, by go_num, by omega, hLL, ⟨_, _, rfl⟩, HN'⟩, ?_⟩
          simp [intOf]; omega
        · have hltI : ¬ (j2 : Int) < (m2 : Int) := by omega
          obtain rfl : j2 = m2 := by omega
          have e : es.take (2 * j2) = es := List.take_of_length_le (by have := HM2.out; omega)
          have e2 : inE es j2 = fun k : Pk => ranB rs k.num := funext fun k => by unfold inE; rw [e, HMEM.out]
          rw [e2] at hk1 hk2 hk4
          have HX := Lib.hid (And.intro hk1 (And.intro hk2 (And.intro hk3 (And.intro hk4 hk5))))
          clear hk1 hk2 hk3 hk4 hk5 e e2
          go_wp2_with fail
          go_ret2
          obtain ⟨hk1, hk2, hk3, hk4, hk5⟩ := HX.out
          refine .inr ⟨HALL.out, A3, L, c3, curx, rfl, hk1, own_base hk2 (by have := HZ7.out; omega), ?_, hk5, HM7.out.trans hk3⟩
          rw [← HBH.out]
          exact hk4.l
end Go.Proofs.Ytebfjphmlggacaa.Ld
