/- LedgerLate: the walk. Conditions: as each theorem lists them. -/
import Derived.Test.YtgejakbenldebaaLn
set_option linter.unusedSimpArgs false
set_option linter.unusedVariables false
namespace Go.Proofs.Ytgejakbenldebaa.Ld
open Go Go.RowKit Go.Proofs.Ytgejakbenldebaa Go.Proofs.Ytgejakbenldebaa.Sp

def lateL (m : Nat) : List Pk := (List.range m).map fun i => ⟨i, (i : Int), true, none, 0, 0⟩
theorem lateL_succ (m : Nat) : lateL (m + 1) = lateL m ++ [⟨m, (m : Int), true, none, 0, 0⟩] := by simp [lateL, List.range_succ]
theorem lateL_mem {m : Nat} {k : Pk} (h : k ∈ lateL m) : k.num < m ∧ k.at' = (k.num : Int) ∧ k.el = true := by
  simp only [lateL, List.mem_map, List.mem_range] at h
  obtain ⟨i, hi, rfl⟩ := h
  exact ⟨hi, rfl, rfl⟩
theorem lateL_has {m i : Nat} (h : i < m) : (⟨i, (i : Int), true, none, 0, 0⟩ : Pk) ∈ lateL m := by
  simp only [lateL, List.mem_map, List.mem_range]
  exact ⟨i, h, rfl⟩
theorem els_all : ∀ l : List Pk, (∀ k ∈ l, k.el = true) → els l = l.length
  | [], _ => rfl
  | k :: r, h => by
    have := els_all r fun x hx => h x (List.mem_cons_of_mem _ hx)
    unfold els at this ⊢
    rw [List.countP_cons, this, h k (by simp)]
    simp
theorem filter_len (s : Pk → Bool) : ∀ l : List Pk, (l.filter s).length + (l.filter fun k => !s k).length = l.length
  | [] => rfl
  | k :: r => by
    have := filter_len s r
    by_cases hk : s k = true
    · simp [hk]; omega
    · simp only [Bool.not_eq_true] at hk
      simp [hk]; omega
theorem late_one (m K : Nat) (h : K < m) : ((lateL m).filter fun k : Pk => ranB [((K : Int), (K : Int))] k.num).length = 1 := by
  have e : ∀ k : Pk, ranB [((K : Int), (K : Int))] k.num = decide (k.num = K) := fun k => by
    simp only [ranB, List.any_cons, List.any_nil, Bool.or_false, inB]
    rw [Bool.eq_iff_iff]
    simp
    omega
  rw [List.filter_congr fun k _ => e k]
  clear e
  induction m with
  | zero => omega
  | succ m ih =>
    rw [lateL_succ, List.filter_append, List.length_append]
    by_cases hk : K < m
    · rw [ih hk]
      simp; omega
    · obtain rfl : K = m := by omega
      have : (lateL K).filter (fun k : Pk => decide (k.num = K)) = [] := by
        rw [List.filter_eq_nil_iff]
        intro k hk
        have := (lateL_mem hk).1
        simp; omega
      rw [this]
      simp
/-- What Lose tells, packet by packet. -/
theorem late_had (N K : Nat) (hK : K < N) (X L : Int) (i : Nat) (hi : i < N) :
    ((((lateL N).filter fun k : Pk => !ranB [((K : Int), (K : Int))] k.num).filter (selB 0 (((K + 1 : Nat) : Int) - 1) (oldB (K + 1) X L))).any fun k => k.num == i) = (decide ((i : Int) < (K : Int)) && (decide (3 ≤ (K : Int) - (i : Int)) || decide ((i : Int) ≤ X - L))) := by
  rw [Bool.eq_iff_iff, List.any_eq_true]
  constructor
  · rintro ⟨k, hk, he⟩
    rw [List.mem_filter, List.mem_filter] at hk
    obtain ⟨⟨hk1, _⟩, hk3⟩ := hk
    have := lateL_mem hk1
    simp only [beq_iff_eq] at he
    subst he
    simp only [selB, oldB, Bool.and_eq_true, Bool.or_eq_true, decide_eq_true_eq] at hk3 ⊢
    omega
  · intro h
    simp only [Bool.and_eq_true, Bool.or_eq_true, decide_eq_true_eq] at h
    refine ⟨⟨i, (i : Int), true, none, 0, 0⟩, ?_, by simp⟩
    rw [List.mem_filter, List.mem_filter]
    refine ⟨⟨lateL_has hi, ?_⟩, ?_⟩
    · simp [ranB, inB]; omega
    · simp only [selB, oldB, Bool.and_eq_true, Bool.or_eq_true, decide_eq_true_eq]
      omega
theorem late_again (s : Pk → Bool) (l : List Pk) : (l.filter fun k => !s k).filter s = [] ∧ ((l.filter fun k => !s k).filter fun k => !s k) = l.filter fun k => !s k := by
  constructor
  · rw [List.filter_filter, List.filter_eq_nil_iff]
    intro k _
    cases s k <;> simp
  · rw [List.filter_filter]
    exact List.filter_congr fun k _ => by cases s k <;> rfl

theorem infoB1 : (Try.prog.info? 4).map (fun i => (i.zero, i.size, i.bytes)) = some (some (.bool false), 1, 1) := by kernel_rfl

set_option maxRecDepth 100000 in
set_option maxHeartbeats 16000000 in
theorem late_walk (n ac nw lt : Int) (w : World) (hn : -9223372036854775808 ≤ n) (hn' : n ≤ 9223372036854775807) (ha : -9223372036854775808 ≤ ac) (ha' : ac ≤ 9223372036854775807) (hw : -9223372036854775808 ≤ nw) (hw' : nw ≤ 9223372036854775807) (hl : -9223372036854775808 ≤ lt) (hl' : lt ≤ 9223372036854775807) :
    Calls Try.prog 4 #[.int .i64 n, .int .i64 ac, .int .i64 nw, .int .i64 lt] w fun e w' => e = .returned (.bool true) ∧ Below w.heap.size w w' := by
  obtain ⟨N0, hN0, hN0'⟩ : ∃ x : Nat, n % 30 = (x : Int) ∧ x < 30 := ⟨(n % 30).toNat, by omega, by omega⟩
  have HP1 : Hid (∀ W, Calls Try.prog 5 #[.int .i64 n, .int .i64 30] W fun e w' => e = .returned (.int .i64 (N0 : Int)) ∧ W = w') := fun W => by have := pick_any n 30 W (by decide) (by decide); rwa [hN0] at this
  obtain ⟨N, hN⟩ : ∃ x : Nat, x = N0 + 4 := ⟨_, rfl⟩
  have hK0 := Int.emod_nonneg ac (show (N : Int) ≠ 0 by omega)
  have hK1 := Int.emod_lt_of_pos ac (show (0 : Int) < (N : Int) by omega)
  obtain ⟨K, hK, hKN⟩ : ∃ x : Nat, ac % (N : Int) = (x : Int) ∧ x < N := ⟨(ac % (N : Int)).toNat, by omega, by omega⟩
  have HP2 : Hid (∀ W, Calls Try.prog 5 #[.int .i64 ac, .int .i64 (N : Int)] W fun e w' => e = .returned (.int .i64 (K : Int)) ∧ W = w') := fun W => by have := pick_any ac N W (by omega) (by omega); rwa [hK] at this
  obtain ⟨X, hX, hX'⟩ : ∃ x : Nat, nw % 50 = (x : Int) ∧ x < 50 := ⟨(nw % 50).toNat, by omega, by omega⟩
  have HP3 : Hid (∀ W, Calls Try.prog 5 #[.int .i64 nw, .int .i64 50] W fun e w' => e = .returned (.int .i64 (X : Int)) ∧ W = w') := fun W => by have := pick_any nw 50 W (by decide) (by decide); rwa [hX] at this
  obtain ⟨L0, hL0, hL0'⟩ : ∃ x : Nat, lt % 30 = (x : Int) ∧ x < 30 := ⟨(lt % 30).toNat, by omega, by omega⟩
  have HP4 : Hid (∀ W, Calls Try.prog 5 #[.int .i64 lt, .int .i64 30] W fun e w' => e = .returned (.int .i64 (L0 : Int)) ∧ W = w') := fun W => by have := pick_any lt 30 W (by decide) (by decide); rwa [hL0] at this
  obtain ⟨L, hL⟩ : ∃ x : Nat, x = L0 + 1 := ⟨_, rfl⟩
  have h4 : (4 : Int) + (N0 : Int) = (N : Int) := by omega
  have h1 : (1 : Int) + (L0 : Int) = (L : Int) := by omega
  have hNb : (N : Int) ≤ 33 := by omega
  have hN4 : 4 ≤ (N : Int) := by omega
  have hLb : (L : Int) ≤ 30 := by omega
  have hXb : (X : Int) < 50 := by omega
  have HKN := Lib.hid hKN
  have hKI : (K : Int) < (N : Int) := by omega
  have hN0b : (N0 : Int) < 30 := by omega
  have hL0b : (L0 : Int) < 30 := by omega
  clear hn hn' ha ha' hw hw' hl hl' hK0 hK1 hN0 hK hX hL0 hN hL hN0' hX' hL0' hKN
  obtain ⟨i0, hi, hz0, hz1, hz2⟩ := info_parts infoB1
  have hmk := fun W => run_make (P := Try.prog) W 48 4 i0 (.bool false) Try.underlying48 hi hz0 .i64 .i64 (N : Int) (N : Int) (by omega) (by omega) (by rw [hz2]; omega) (by omega)
  simp only [hz1, Int.toNat_natCast] at hmk
  clear hi hz0 hz1 hz2
  go_enter Try.func4, Try.ntmps4
  go_wp2_with fail
  refine (HP1.out _).mono ?_; rintro e w' ⟨rfl, rfl⟩
  go_wp2_with fail
  refine (HP2.out _).mono ?_; rintro e w' ⟨rfl, rfl⟩
  go_wp2_with fail
  refine (HP3.out _).mono ?_; rintro e w' ⟨rfl, rfl⟩
  go_wp2_with fail
  refine (HP4.out _).mono ?_; rintro e w' ⟨rfl, rfl⟩
  clear HP1 HP2 HP3 HP4
  go_wp2_with fail
  obtain ⟨w1, hw1⟩ : ∃ x, w.alloc (.cells #[.slice none 0 0, .int .i64 0, .int .i64 0, .int .i64 0] 25) = x := ⟨_, rfl⟩
  have hl1 := led_new w
  rw [hw1] at hl1 ⊢
  have hb1 : Below w.heap.size w w1 := by rw [← hw1]; exact (Below.refl _ _).alloc (Nat.le_refl _) _
  clear hw1
  obtain ⟨p, hp⟩ : ∃ x, Hid (w.heap.size = x) := ⟨_, rfl⟩
  rw [hp.out] at hl1 hb1 ⊢
  obtain ⟨cur, hcur⟩ : ∃ x, #[Value.slice none 0 0, Value.int .i64 0, Value.int .i64 0, Value.int .i64 0] = x := ⟨_, rfl⟩
  rw [hcur] at hl1
  have HL1 := Lib.hid hl1
  have HB1 := Lib.hid hb1
  clear hl1 hb1 hcur
  go_loopw [10] (fun i wr => ∃ j : Nat, i = .int .i64 (j : Int) ∧ j ≤ N ∧ Hid ((∃ cur', Led wr p p 0 25 cur' (lateL j) j 0) ∧ Below p w wr)) (fun i _ => N - (intOf i).toNat)
  case atStart => exact ⟨0, rfl, Nat.zero_le _, ⟨_, HL1.out⟩, HB1.out⟩
  case round =>
    obtain ⟨j, rfl, hj, HK⟩ := hrel
    clear HL1 HB1
    obtain ⟨⟨cur1, hl⟩, hb⟩ := HK.out
    clear HK
    by_cases hlt : j < N
    · have hltI : (j : Int) < (N : Int) := by omega
      have hb8 : Below wr.heap.size wr (wr.alloc (.cells #[.int .i64 (j : Int), .int .i64 (j : Int), .bool true, .slice none 0 0] 41)) := (Below.refl _ _).alloc (Nat.le_refl _) _
      have ho8 := own_new wr #[.int .i64 (j : Int), .int .i64 (j : Int), .bool true, .slice none 0 0] 41 4 1 wr.heap.size wr.heap.size rfl rfl (by unfold maxLen; omega) (Nat.le_refl _)
      have hP := put_led _ p p 0 _ cur1 (lateL j) j 0 (hl.keep hb8) [⟨j, (j : Int), true, none, 0, 0⟩] (fun k hk => by simp only [List.mem_cons, List.not_mem_nil, or_false] at hk; subst hk; exact ⟨rfl, rfl, rfl⟩) (by simp only [List.length_cons, List.length_nil]; omega) (some ⟨wr.heap.size, 0, none⟩) 1 (by simp) (rd_moved ho8 hl.lt.2)
      have e : putF (lateL j, j) [⟨j, (j : Int), true, none, 0, 0⟩] = (lateL (j + 1), j + 1) := by rw [lateL_succ]; exact if_pos rfl
      rw [e] at hP
      have HP := Lib.hid hP
      have HB8 : Hid (Below p w (wr.alloc (.cells #[.int .i64 (j : Int), .int .i64 (j : Int), .bool true, .slice none 0 0] 41))) := hb.trans (hb8.mono (Nat.le_of_lt hl.lt.2))
      clear hP e ho8 hb8 hb hl
      go_wp2_with fail
      refine (HP.out).mono ?_
      rintro e w5 ⟨rfl, cur5, hl5, hs5, hm5⟩
      have HN' : Hid ((∃ cur', Led w5 p p 0 25 cur' (lateL (j + 1)) (j + 1) 0) ∧ Below p w w5) := ⟨⟨_, hl5⟩, HB8.out.trans hm5.below⟩
      clear hl5 hs5 hm5 HP HB8
      go_wp2_with fail
      refine ⟨⟨j + 1, by go_num, by omega, HN'⟩, ?_⟩
      simp [intOf]; omega
    · have hltI : ¬ (j : Int) < (N : Int) := by omega
      obtain rfl : j = N := by omega
      have hb8 : Below wr.heap.size wr (wr.alloc (.cells #[.int .i64 (K : Int), .int .i64 (K : Int)] 47)) := (Below.refl _ _).alloc (Nat.le_refl _) _
      have hA := ack_led (wr.alloc (.cells #[.int .i64 (K : Int), .int .i64 (K : Int)] 47)) p p 0 _ cur1 _ _ 0 (hl.keep hb8) (by omega) [((K : Int), (K : Int))] (by simp) (some ⟨wr.heap.size, 0, none⟩) 1 (by simp) (rd_new _ _ _ _ _ _ _ rfl (by simp) rfl rfl)
      have HA := Lib.hid hA
      have HB8 : Hid (Below p w (wr.alloc (.cells #[.int .i64 (K : Int), .int .i64 (K : Int)] 47))) := hb.trans (hb8.mono (Nat.le_of_lt hl.lt.2))
      clear hA hb8 hb hl
      go_wp2_with fail
      refine (HA.out).mono ?_
      intro e w5 hAP
      rcases hAP with ⟨⟨r, hr, h⟩, _⟩ | ⟨_, A5, n5, c5, cur5, rfl, hn5, ho5, hl5, hs5, hm5⟩
      · simp only [List.mem_cons, List.not_mem_nil, or_false] at hr
        subst hr
        exact absurd h (by show ¬ (j : Int) ≤ (K : Int); omega)
      have e3 : behF 0 [((K : Int), (K : Int))] = K + 1 := by simp [behF, hasN]
      rw [e3] at hl5
      have hq1 := filter_len (fun k : Pk => ranB [((K : Int), (K : Int))] k.num) (lateL j)
      rw [late_one j K HKN.out] at hq1
      have hll : (lateL j).length = j := by simp [lateL]
      rw [hll] at hq1
      obtain ⟨ks1, hks1⟩ : ∃ x, Hid (((lateL j).filter fun k : Pk => !ranB [((K : Int), (K : Int))] k.num) = x) := ⟨_, rfl⟩
      have hat1 : ∀ k ∈ ks1, k.num < j ∧ k.at' = (k.num : Int) ∧ k.el = true := fun k hk => by
        rw [← hks1.out] at hk
        exact lateL_mem (List.mem_filter.1 hk).1
      rw [hks1.out] at hl5 hq1
      have hL := lose_led hl5 (by omega) (X : Int) (L : Int) (fun k hk => by
        have := hat1 k hk
        omega) (by omega) (by omega)
      obtain ⟨s, hs⟩ : ∃ x, Hid (selB 0 (((K + 1 : Nat) : Int) - 1) (oldB (K + 1) (X : Int) (L : Int)) = x) := ⟨_, rfl⟩
      have HHAD : Hid (∀ i, i < j → ((ks1.filter s).any fun k => k.num == i) = (decide ((i : Int) < (K : Int)) && (decide (3 ≤ (K : Int) - (i : Int)) || decide ((i : Int) ≤ (X : Int) - (L : Int))))) := fun i hi => by
        rw [← hks1.out, ← hs.out]
        exact late_had j K HKN.out X L i hi
      rw [hs.out] at hL
      have HL := Lib.hid hL
      have HQ1 := Lib.hid hq1
      have HAT := Lib.hid hat1
      have HB5 : Hid (Below p w w5) := HB8.out.trans hm5.below
      clear hL hl5 hs5 hm5 ho5 hn5 hq1 hll HA HB8 e3 hat1
      go_wp2_with fail
      refine (HL.out).mono ?_
      rintro e w6 ⟨v6, rfl, A6, c6, cur6, rfl, ho6, hl6, hs6, hm6⟩
      obtain ⟨xs, hxs⟩ : ∃ x, Hid (ks1.filter s = x) := ⟨_, rfl⟩
      rw [hxs.out] at ho6 HHAD ⊢
      obtain ⟨M, hM⟩ : ∃ x, Hid (xs.length = x) := ⟨_, rfl⟩
      rw [hM.out] at ho6 ⊢
      have HXM : Hid (∀ k ∈ xs, k.num < j) := fun k hk => by
        rw [← hxs.out] at hk
        exact (HAT.out k (List.mem_filter.1 hk).1).1
      have hMc : M ≤ c6 := by
        obtain ⟨_, _, e, hc, _⟩ := own_form ho6
        simp only [Value.slice.injEq, true_and] at e
        omega
      have hMcI : (M : Int) ≤ (c6 : Int) := by omega
      have hMj : M ≤ j := by
        have h1 := filter_len s ks1
        rw [hxs.out, hM.out] at h1
        have := HQ1.out
        omega
      have hMI : (M : Int) ≤ (j : Int) := by omega
      have HO6 := Lib.hid ho6
      have HL6 := Lib.hid hl6
      have HB6 : Hid (Below p w w6) := HB5.out.trans hm6.below
      clear ho6 hl6 hs6 hm6 HL HB5
      go_wp2_with fail
      obtain ⟨h7, hh7⟩ : ∃ x, Hid (w6.heap.size = x) := ⟨_, rfl⟩
      obtain ⟨w7, hw7⟩ : ∃ x, w6.alloc (Obj.cells (madeCells #[Value.bool false] j) 4) = x := ⟨_, rfl⟩
      rw [hw7, hh7.out]
      have HB7 : Hid (Below w6.heap.size w6 w7) := by rw [← hw7]; exact (Below.refl _ _).alloc (Nat.le_refl _) _
      have HR7 : Hid (w7.heap[h7]? = some (.cells (madeCells #[Value.bool false] j) 4 (0, 0))) := by rw [← hw7, ← hh7.out]; exact heap_alloc_new _ _
      clear hw7 hmk
      go_loopw [59] (fun i wr => ∃ j2 : Nat, i = .int .i64 (j2 : Int) ∧ j2 ≤ M ∧ Hid (Below w6.heap.size w6 wr ∧ ∃ arr, arr.size = j ∧ wr.heap[h7]? = some (.cells arr 4 (0, 0)) ∧ ∀ i, i < j → arr[i]? = some (.bool ((xs.take j2).any fun k => k.num == i)))) (fun i _ => M - (intOf i).toNat)
      case atStart =>
        refine ⟨0, rfl, Nat.zero_le _, HB7.out, _, by rw [size_madeCells], HR7.out, fun i hi => ?_⟩
        rw [← Array.getElem?_toList, toList_madeCells_one, List.getElem?_replicate, if_pos hi]
        rfl
      case round =>
        obtain ⟨j2, rfl, hj2, HK⟩ := hrel
        clear HR7 HB7
        obtain ⟨hb, arr, hsz, hblk, harr⟩ := HK.out
        clear HK
        by_cases hlt2 : j2 < M
        · have hlt2I : (j2 : Int) < (M : Int) := by omega
          obtain ⟨_, _, e0, _, _, _, hrd⟩ := own_form (own_below HO6.out hb)
          simp only [Value.slice.injEq, true_and] at e0
          obtain ⟨rfl, rfl⟩ := e0
          obtain ⟨b, off, hA, hbl, hcs⟩ := hrd.2 (by omega)
          subst hA
          obtain ⟨k, hk⟩ : ∃ k, xs[j2]? = some k := ⟨_, List.getElem?_eq_getElem (by rw [hM.out]; exact hlt2)⟩
          have hkn := HXM.out k (List.mem_of_getElem? hk)
          have htk : ∀ i, ((xs.take (j2 + 1)).any fun k => k.num == i) = (((xs.take j2).any fun k => k.num == i) || (k.num == i)) := fun i => by
            rw [take_snoc hk, List.any_append]; simp
          have hg := pks_get xs j2 _ hk
          obtain ⟨num, at', el, fa, fn, fc⟩ := k
          have c0 : wr.cell? ⟨b, off + j2 * 4, none⟩ = some (.int .i64 (num : Int)) := hcs (j2 * 4 + 0) _ (hg 0 (by omega))
          have c1 : wr.cell? ⟨b, off + j2 * 4 + 1, none⟩ = some (.int .i64 at') := hcs (j2 * 4 + 1) _ (hg 1 (by omega))
          have c2 : wr.cell? ⟨b, off + j2 * 4 + 2, none⟩ = some (.bool el) := hcs (j2 * 4 + 2) _ (hg 2 (by omega))
          have c3 : wr.cell? ⟨b, off + j2 * 4 + 3, none⟩ = some (.slice fa fn fc) := hcs (j2 * 4 + 3) _ (hg 3 (by omega))
          have hkn : num < j := hkn
          have htk : ∀ i, ((xs.take (j2 + 1)).any fun k => k.num == i) = (((xs.take j2).any fun k => k.num == i) || (num == i)) := htk
          have HTK := Lib.hid htk
          have HARR := Lib.hid harr
          have hh7s : w6.heap.size ≤ h7 := Nat.le_of_eq hh7.out
          have n0 := World.new_ne wr _ c0
          clear hg hcs hrd htk harr hk
          go_upto_region 18 with (fail)
          obtain ⟨w8, hw8⟩ : ∃ x, wr.alloc (Obj.cells #[Value.int IntKind.i64 (num : Int), Value.int IntKind.i64 at', Value.bool el, Value.slice fa fn fc] 41) = x := ⟨_, rfl⟩
          rw [hw8]
          have hb8 : Below wr.heap.size wr w8 := by rw [← hw8]; exact (Below.refl _ _).alloc (Nat.le_refl _) _
          have hk8 : w8.heap[wr.heap.size]? = some (.cells #[Value.int IntKind.i64 (num : Int), Value.int IntKind.i64 at', Value.bool el, Value.slice fa fn fc] 41 (0, 0)) := by rw [← hw8]; exact heap_alloc_new wr _
          obtain ⟨bo, hbo⟩ : ∃ x, Hid (wr.heap.size = x) := ⟨_, rfl⟩
          rw [hbo.out] at hk8 ⊢
          have d0 := cell_of_row w8 bo 0 _ _ _ hk8
          simp only [List.getElem?_toArray, List.getElem?_cons_zero, List.getElem?_cons_succ] at d0
          have hr8 : w8.heap[h7]? = some (.cells arr 4 (0, 0)) := (hb8.block h7 (lt_of_block hblk)).trans hblk
          have hcv : w8.cell? ⟨h7, num, none⟩ = some (.bool ((xs.take j2).any fun k => k.num == num)) := cell_slot hr8 (HARR.out num hkn)
          have hfz : w8.frozen? ⟨h7, num, none⟩ = false := free_slot hr8
          have hb68 : Below w6.heap.size w6 w8 := hb.trans (hb8.mono hb.size)
          have hnI : (num : Int) < (j : Int) := by omega
          have HN' : Hid (Below w6.heap.size w6 (w8.setCell ⟨h7, num, none⟩ (.bool true)) ∧ ∃ arr, arr.size = j ∧ (w8.setCell ⟨h7, num, none⟩ (.bool true)).heap[h7]? = some (.cells arr 4 (0, 0)) ∧ ∀ i, i < j → arr[i]? = some (.bool ((xs.take (j2 + 1)).any fun k => k.num == i))) := by
            refine ⟨hb68.setCell hh7s _, arr.setIfInBounds num (.bool true), by rw [Array.size_setIfInBounds]; exact hsz, set_slot hr8 _ _, fun i hi => ?_⟩
            rw [HTK.out]
            by_cases hin : num = i
            · subst hin
              rw [slot_set (HARR.out num hkn)]
              simp
            · rw [slot_other hin, HARR.out i hi]
              simp [hin]
          obtain ⟨qb, hqb⟩ : ∃ x, ((xs.take j2).any fun k => k.num == num) = x := ⟨_, rfl⟩
          rw [hqb] at hcv
          clear hw8 hb8 hk8 hr8 hb68 c0 c1 c2 c3 n0 hblk hb hqb
          have hn0 : ¬ (num : Int) < 0 := by omega
          have hnj : ¬ (j : Int) ≤ (num : Int) := by omega
          go_wp2_with fail
          refine ⟨⟨j2 + 1, by go_num, by omega, HN'⟩, ?_⟩
          simp [intOf]; omega
        · have hlt2I : ¬ (j2 : Int) < (M : Int) := by omega
          obtain rfl : j2 = M := by omega
          rw [List.take_of_length_le (by rw [hM.out]; exact Nat.le_refl _)] at harr
          have HARR : Hid (∀ i, i < j → wr.cell? ⟨h7, i, none⟩ = some (.bool (xs.any fun k => k.num == i))) := fun i hi => cell_slot hblk (harr i hi)
          have HB := Lib.hid hb
          clear hb harr hblk hsz
          go_wp2_with fail
          go_loopw [17] (fun i wx => ∃ j3 : Nat, i = .int .i64 (j3 : Int) ∧ j3 ≤ j ∧ wx = wr) (fun i _ => j - (intOf i).toNat)
          case atStart => exact ⟨0, rfl, Nat.zero_le _, rfl⟩
          case round =>
            obtain ⟨j3, rfl, hj3, hwx⟩ := hrel
            have hwx := hwx.symm
            subst hwx
            by_cases hlt3 : j3 < j
            · have hlt3I : (j3 : Int) < (j : Int) := by omega
              have hcv := HARR.out j3 hlt3
              have hj3I : 0 ≤ (j3 : Int) := by omega
              by_cases q1 : (j3 : Int) < (K : Int)
              · by_cases q2 : 3 ≤ (K : Int) - (j3 : Int)
                · have hv := HHAD.out j3 hlt3
                  rw [decide_eq_true q1, decide_eq_true q2] at hv
                  simp only [Bool.true_or, Bool.and_self] at hv
                  rw [hv] at hcv
                  clear hv
                  go_wp2_with fail
                  refine ⟨⟨j3 + 1, by go_num, by omega, trivial⟩, ?_⟩
                  simp [intOf]; omega
                · by_cases q3 : (j3 : Int) ≤ (X : Int) - (L : Int)
                  · have hv := HHAD.out j3 hlt3
                    rw [decide_eq_true q1, decide_eq_false q2, decide_eq_true q3] at hv
                    simp only [Bool.or_true, Bool.and_self] at hv
                    rw [hv] at hcv
                    clear hv
                    go_wp2_with fail
                    refine ⟨⟨j3 + 1, by go_num, by omega, trivial⟩, ?_⟩
                    simp [intOf]; omega
                  · have hv := HHAD.out j3 hlt3
                    rw [decide_eq_true q1, decide_eq_false q2, decide_eq_false q3] at hv
                    simp only [Bool.or_self, Bool.and_false] at hv
                    rw [hv] at hcv
                    clear hv
                    go_wp2_with fail
                    refine ⟨⟨j3 + 1, by go_num, by omega, trivial⟩, ?_⟩
                    simp [intOf]; omega
              · have hv := HHAD.out j3 hlt3
                rw [decide_eq_false q1] at hv
                simp only [Bool.false_and] at hv
                rw [hv] at hcv
                clear hv
                go_wp2_with fail
                refine ⟨⟨j3 + 1, by go_num, by omega, trivial⟩, ?_⟩
                simp [intOf]; omega
            · have hlt3I : ¬ (j3 : Int) < (j : Int) := by omega
              obtain rfl : j3 = j := by omega
              have hag := late_again s ks1
              have hlx := filter_len s ks1
              rw [hxs.out, hM.out] at hlx
              have hlw := HL6.out.keep HB.out
              have hL2 := lose_led hlw (by omega) (X : Int) (L : Int) (fun k hk => by
                have := HAT.out k (List.mem_filter.1 hk).1
                omega) (by omega) (by omega)
              rw [hs.out] at hL2
              have HL2 := Lib.hid hL2
              have HAG := Lib.hid hag
              have HF : Hid ((els (ks1.filter fun k => !s k) : Int) = (j3 : Int) - 1 - (j2 : Int)) := by
                have e := els_all (ks1.filter fun k => !s k) (fun k hk => (HAT.out k (List.mem_filter.1 hk).1).2.2)
                have := HQ1.out
                show _ = _
                rw [e]
                omega
              have HBW : Hid (Below p w wr) := HB6.out.trans (HB.out.mono (Nat.le_of_lt HL6.out.lt.2))
              clear hL2 hag hlx hlw
              go_wp2_with fail
              refine (HL2.out).mono ?_
              rintro e w9 ⟨v9, rfl, A9, c9, cur9, rfl, ho9, hl9, hs9, hm9⟩
              rw [HAG.out.2] at hl9
              have e0 : ((ks1.filter fun k => !s k).filter s).length = 0 := by rw [HAG.out.1]; rfl
              rw [e0]
              have HL9 := Lib.hid hl9
              have HB9 : Hid (Below p w w9) := HBW.out.trans hm9.below
              clear ho9 hl9 hs9 hm9 e0 HL2
              go_wp2_with fail
              refine (known_any _).mono ?_
              rintro e w10 ⟨rfl, hb10⟩
              have hf := flight_led (HL9.out.keep hb10)
              rw [HF.out] at hf
              have HFL := Lib.hid hf
              have HB10 : Hid (Below p w w10) := HB9.out.trans (hb10.mono (Nat.le_of_lt HL9.out.lt.2))
              clear hf hb10
              have hj1 : 1 ≤ (j3 : Int) := by omega
              go_wp2_with fail
              refine (HFL.out).mono ?_
              rintro e w11 ⟨rfl, hw11⟩
              have hw11 := hw11.symm
              subst hw11
              go_wp2_with fail
              go_ret
              exact ⟨rfl, by rw [hp.out]; exact HB10.out⟩
end Go.Proofs.Ytgejakbenldebaa.Ld
