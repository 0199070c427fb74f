/- The ledger's leave, called with the closure of Lose: a contract. Conditions: as each theorem lists them. -/
import Derived.Test.YtebfjphmlggacaaJLd
import Derived.Deep.DeepCutAuto
import Derived.Deep.CutBlock
set_option linter.unusedSimpArgs false
set_option linter.unusedVariables false

namespace Go.Proofs.Ytebfjphmlggacaa.Ld
open Go Go.RowKit Go.Proofs.Ytebfjphmlggacaa Go.Proofs.Ytebfjphmlggacaa.Sp

set_option maxRecDepth 100000 in
set_option maxHeartbeats 8000000 in
theorem leave_old (w : World) (lo hi p o : Nat) (T : TypeId) (cur : Array Value) (os : List (Option Pk)) (fl next behind : Nat) (h : LedIn w lo hi p o T cur os fl next behind) (hfl : fl = els (outs os)) (hn : next ≤ 1800000000000) (f : Nat) (t : Int) (ht : t ≤ next) (ht0 : -1 ≤ t) (hf : f ≤ 4611686018427387904) (b1 b2 b3 : Nat) (n l : Int) (h1 : w.heap[b1]? = some (.cells #[.pointer (some ⟨p, o, none⟩)] 74 (0, 0))) (h2 : w.heap[b2]? = some (.cells #[.int .i64 n] 3 (0, 0))) (h3 : w.heap[b3]? = some (.cells #[.int .i64 l] 3 (0, 0))) (hne : b1 ≠ p ∧ b2 ≠ p ∧ b3 ≠ p) (hat : ∀ k ∈ outs os, -9223372036854775808 ≤ k.at' ∧ k.at' ≤ 9223372036854775807) (hnn : -9223372036854775808 ≤ n ∧ n ≤ 9223372036854775807) (hll : -9223372036854775808 ≤ l ∧ l ≤ 9223372036854775807) :
    Calls Try.prog 43 #[.pointer (some ⟨p, o, none⟩), .int .i64 (f : Int), .int .i64 t, .func (.func 49) #[] #[.pointer (some ⟨b1, 0, none⟩), .pointer (some ⟨b2, 0, none⟩), .pointer (some ⟨b3, 0, none⟩)]] w fun e w' => LeaveP w lo hi p o T cur os next behind (selB f t (oldB behind n l)) e w' := by
  subst hfl
  obtain ⟨A, c, hA, hR⟩ := h.row
  have hc0 := cell_slot h.hp hA
  have hc1 := h.cell.1
  have hnI : (next : Int) ≤ 1800000000000 := by omega
  have hlen := h.len
  have HHI : Hid (hi ≤ w.heap.size ∧ lo ≤ w.heap.size) := ⟨h.hsz, Nat.le_trans h.hlo (Nat.le_trans (Nat.le_of_lt h.hhi) h.hsz)⟩
  obtain ⟨m, hm⟩ : ∃ m, Hid (os.length = m) := ⟨_, rfl⟩
  rw [hm.out] at hc0 hA hlen
  obtain ⟨first, hfi⟩ : ∃ q : Nat, next = q + m := ⟨next - m, by omega⟩
  have HFI := Lib.hid hfi
  have hsub : (next : Int) - (m : Int) = (first : Int) := by omega
  have hmI : (m : Int) ≤ 1800000000000 := by omega
  have htI : t ≤ 1800000000000 := by omega
  have hfI : (f : Int) ≤ 4611686018427387904 := by omega
  have hqI : (first : Int) ≤ 1800000000000 := by omega
  obtain ⟨g, hg⟩ : ∃ g, Hid ((oldB behind n l) = g) := ⟨_, rfl⟩
  obtain ⟨s, hs⟩ : ∃ s, Hid (selB f t g = s) := ⟨_, rfl⟩
  rw [hg.out, hs.out]
  have H := Lib.hid h
  have HN := Lib.hid hn
  have HT := Lib.hid ht
  have HCAP : Hid (w.heap[b1]? = some (.cells #[.pointer (some ⟨p, o, none⟩)] 74 (0, 0)) ∧ w.heap[b2]? = some (.cells #[.int .i64 n] 3 (0, 0)) ∧ w.heap[b3]? = some (.cells #[.int .i64 l] 3 (0, 0)) ∧ b1 ≠ p ∧ b2 ≠ p ∧ b3 ≠ p) := ⟨h1, h2, h3, hne⟩
  have HAT := Lib.hid hat
  have HNL := Lib.hid (And.intro hnn hll)
  clear h1 h2 h3 hne hat hnn hll
  obtain ⟨i0, hi, hz0, hz1, hz2⟩ := info_parts infoS
  have HI := Lib.hid (And.intro hi (And.intro hz0 (And.intro hz1 hz2)))
  have HNUM : Hid (∀ i k, os[i]? = some (some k) → k.num = first + i) := fun i k hk => by
    have := H.out.nums i k hk
    have := hm.out; have := HFI.out
    omega
  clear h hi hz0 hz1 hz2 hR hfi hlen hn ht hf
  go_enter Try.func43, Try.ntmps43
  go_wp2_with fail
  go_quiet (fail)
  go_wp2_with fail
  obtain ⟨w0, hw0⟩ : ∃ x, w.drewN nq = x := ⟨_, rfl⟩
  rw [hw0]
  have HB0 : Hid (Below w.heap.size w w0) := by rw [← hw0]; exact Below.drewN' _ _ _
  have HZ0 : Hid (w0.heap.size = w.heap.size) := by rw [← hw0]; rfl
  have HL0 : Hid (LedIn w0 lo hi p o T cur os (els (outs os)) next behind) := H.out.keep (HB0.out.mono HHI.out.1)
  clear hw0 hc0 hc1
  have hmx : max (f : Int) (first : Int) = ((max f first : Nat) : Int) := by omega
  rw [hmx]
  clear hmx
  go_loopw [10, 11] (fun v i wr => ∃ N L : Nat, i = .int .i64 (N : Int) ∧ first ≤ N ∧ f ≤ N ∧ N ≤ 4611686018427387904 ∧ L ≤ 1800000000000 ∧ (∃ A3 c3, v = .slice A3 L c3) ∧ Hid (∃ cur', LvI w wr lo hi p o T cur os next behind s (N - first) L v cur')) (fun _ i _ => t.toNat - (intOf i).toNat)
  case atStart =>
    have hst := left_start s os (max f first - first) (fun k hk => by
      obtain ⟨i, hi, e⟩ := List.getElem_of_mem hk
      rw [List.getElem_take] at e
      simp only [List.length_take] at hi
      have h1 := HNUM.out i k (by rw [List.getElem?_eq_getElem (by omega), e])
      rw [← hs.out]
      unfold selB
      rw [decide_eq_false (show ¬ f ≤ k.num by omega)]
      rfl)
    exact ⟨max f first, 0, rfl, by omega, by omega, by omega, by omega, ⟨_, _, rfl⟩, cur, by rw [hst.1]; rfl, by rw [hst.1]; exact own_nil _ _ _ _, by rw [hst.1, hst.2]; exact HL0.out, CurSame.refl _ _, Moved.of HB0.out HHI.out.2⟩
  case round =>
    obtain ⟨N, L, rfl, hN1, hN3, hN2, hL, ⟨A3, c3, rfl⟩, HK⟩ := hrel
    obtain ⟨cur', hK⟩ := HK.out
    clear HK
    have HK := Lib.hid hK
    clear hK
    by_cases hltI : (N : Int) < t
    · obtain ⟨k, hk⟩ : ∃ k, N = first + k := ⟨N - first, by omega⟩
      have hsubk : (N : Int) - (first : Int) = (k : Int) := by omega
      rw [show N - first = k by omega] at HK
      have HKN := Lib.hid hk
      have HK1 : Hid (k + 1 = N + 1 - first) := by show _ = _; omega
      have hNI : (N : Int) ≤ 1800000000000 := by omega
      have hkm : k < m := by have := HT.out; have := HFI.out; omega
      have hkI : (k : Int) < (m : Int) := by omega
      clear hk
      obtain ⟨A, c, hA, hR⟩ := HK.out.led.row
      have HA := Lib.hid hA
      have HR := Lib.hid hR
      have hc0 := cell_slot HK.out.led.hp hA
      rw [restO_len, hm.out] at hc0
      have hmc : (m : Int) ≤ (c : Int) := by have := hR.1; rw [restO_len, hm.out] at this; omega
      obtain ⟨g', off, row, e, hlo, hg', hrow, hsz, hcs⟩ : ∃ g off row, A = some ⟨g, off, none⟩ ∧ lo ≤ g ∧ g < hi ∧ wr.heap[g]? = some (.cells row 82 (0, 0)) ∧ off + c ≤ row.size ∧ ∀ i u, (restO s os k)[i]? = some u → ∃ v, row[off + i]? = some v ∧ PtrOk wr lo hi v u := by
        rcases hR.2.2 with ⟨_, e⟩ | h
        · omega
        · exact h
      subst e
      obtain ⟨u, hu⟩ : ∃ u, os[k]? = some u := ⟨_, List.getElem?_eq_getElem (by rw [hm.out]; exact hkm)⟩
      obtain ⟨v, hv, hp⟩ := hcs k u (by rw [restO_get _ _ _ _ (Nat.le_refl _)]; exact hu)
      have hcv : wr.cell? ⟨g', off + k, none⟩ = some v := cell_slot hrow hv
      have HROW := Lib.hid hrow
      have HG' : Hid (lo ≤ g' ∧ g' < w.heap.size) := ⟨hlo, Nat.lt_of_lt_of_le hg' HHI.out.1⟩
      have HU := Lib.hid hu
      have HSZ : Hid (w.heap.size ≤ wr.heap.size) := HK.out.mv.below.size
      clear hcs hv hA hR hrow hsz hlo hg' hu
      cases u with
      | none =>
        have hv : v = .pointer none := hp
        subst hv
        clear hp
        have hst := step_stay s os k none HU.out (fun k h => by cases h)
        have HN' : Hid (∃ cur', LvI w wr lo hi p o T cur os next behind s (N + 1 - first) L (.slice A3 L c3) cur') := by
          rw [← HK1.out]
          have h := HK.out
          exact ⟨cur', by rw [hst.1]; exact h.len, by rw [hst.1]; exact h.own, by rw [hst.1, hst.2]; exact h.led, h.cs, h.mv⟩
        clear hst HK HR HA
        go_wp2_with fail
        refine ⟨⟨N + 1, L, by go_num, by omega, by omega, by omega, hL, ⟨_, _, rfl⟩, HN'⟩, ?_⟩
        simp [intOf]; omega
      | some x =>
        obtain ⟨b, e, hb1, hb2, hb3⟩ := hp
        subst e
        have HB3 := Lib.hid hb3
        have HBB : Hid (lo ≤ b ∧ b < w.heap.size) := ⟨hb1, Nat.lt_of_lt_of_le hb2 HHI.out.1⟩
        have hxn := HNUM.out k x HU.out
        rw [← HKN.out] at hxn
        have HXN := Lib.hid hxn
        clear hb3 hb1 hb2 hxn
        have HCALL : Hid (Calls Try.prog 49 #[.pointer (some ⟨b, 0, none⟩), .pointer (some ⟨b1, 0, none⟩), .pointer (some ⟨b2, 0, none⟩), .pointer (some ⟨b3, 0, none⟩)] wr fun e w' => e = .returned (.bool (g x)) ∧ Below wr.heap.size wr w') := by
          rw [← hg.out]
          obtain ⟨c1, c2, c3, n1, n2, n3⟩ := HCAP.out
          have e1 := (HK.out.mv.kept b1 (lt_of_block c1) n1 (fun row e => by rw [c1] at e; simp at e)).trans c1
          have e2 := (HK.out.mv.kept b2 (lt_of_block c2) n2 (fun row e => by rw [c2] at e; simp at e)).trans c2
          have e3 := (HK.out.mv.kept b3 (lt_of_block c3) n3 (fun row e => by rw [c3] at e; simp at e)).trans c3
          exact clo_any HK.out.led (by have := HN.out; omega) b b1 b2 b3 x n l HB3.out (cell_of_one e1) (cell_of_one e2) (cell_of_one e3) (HAT.out x (by
            have := List.mem_of_getElem? HU.out
            simpa [outs] using this)) HNL.out.1 HNL.out.2
        go_wp2_with fail
        refine (HCALL.out).mono ?_
        rintro e w1 ⟨rfl, hb1⟩
        have HW1 := HK.out.keep hb1
        have HK' := Lib.hid HW1
        have HB1 := Lib.hid hb1
        have HB3' : Hid (w1.heap[b]? = some (.cells x.cells 63 (0, 0))) := (hb1.block b (Nat.lt_of_lt_of_le HBB.out.2 HSZ.out)).trans HB3.out
        have HROW' : Hid (w1.heap[g']? = some (.cells row 82 (0, 0))) := (hb1.block g' (Nat.lt_of_lt_of_le HG'.out.2 HSZ.out)).trans HROW.out
        have HSZ' : Hid (w.heap.size ≤ w1.heap.size) := Nat.le_trans HSZ.out hb1.size
        have hcv' : w1.cell? ⟨g', off + k, none⟩ = some (.pointer (some ⟨b, 0, none⟩)) := (hb1.cell (p := ⟨g', off + k, none⟩) (Nat.lt_of_lt_of_le HG'.out.2 HSZ.out)).trans hcv
        have hbr : Below w.heap.size wr w1 := hb1.mono HSZ.out
        have HRow : Hid (RowIn w1 lo hi (some ⟨g', off, none⟩) c (restO s os k)) := HR.out.mono (Nat.le_refl _) fun b hb _ => hbr.block b (Nat.lt_of_lt_of_le hb HHI.out.1)
        clear HK HB3 HROW HSZ hcv hc0 HR hb1 hbr HW1
        cases hgx : g x with
        | false =>
          have hst := step_stay s os k (some x) HU.out (fun k' h => by
            cases h
            rw [← hs.out]; unfold selB; rw [hgx]; simp)
          have HN' : Hid (∃ cur', LvI w w1 lo hi p o T cur os next behind s (N + 1 - first) L (.slice A3 L c3) cur') := by
            rw [← HK1.out]
            have h := HK'.out
            exact ⟨cur', by rw [hst.1]; exact h.len, by rw [hst.1]; exact h.own, by rw [hst.1, hst.2]; exact h.led, h.cs, h.mv⟩
          clear hst HRow HA
          go_wp2_with fail
          refine ⟨⟨N + 1, L, by go_num, by omega, by omega, by omega, hL, ⟨_, _, rfl⟩, HN'⟩, ?_⟩
          simp [intOf]; omega
        | true =>
          have hst := step_go s os k x HU.out (by
            rw [← hs.out]; unfold selB; rw [hgx, decide_eq_true (show f ≤ x.num by have := HXN.out; omega), decide_eq_true (show (x.num : Int) < t by have := HXN.out; omega)]; rfl)
          have HST := Lib.hid hst
          have hL1 : Hid (L + 1 ≤ 1800000000000) := by
            have h1 := left_len_le s os (k + 1)
            rw [hst.1, List.length_append, ← HK'.out.len] at h1
            have := hm.out
            simp only [List.length_cons, List.length_nil] at h1
            show _ ≤ _
            omega
          have hle : Hid (els (leftL s os k) + els [x] ≤ els (outs os)) := by
            have := els_left_le s os (k + 1)
            rw [hst.1, els_app] at this
            exact this
          obtain ⟨num, at', el, fa, fn, fc⟩ := x
          have hxn : N = num := HXN.out.symm
          subst hxn
          clear HXN
          have k0 := cell_of_row w1 b 0 _ _ _ HB3'.out
          have k1 := cell_of_row w1 b 1 _ _ _ HB3'.out
          have k2 := cell_of_row w1 b 2 _ _ _ HB3'.out
          have k3 := cell_of_row w1 b 3 _ _ _ HB3'.out
          simp only [Pk.cells, List.getElem?_toArray, List.getElem?_cons_zero, List.getElem?_cons_succ] at k0 k1 k2 k3
          clear hst
          have hd1 : Hid (Rd (w1.alloc (.cells #[.int .i64 (N : Int), .int .i64 at', .bool el, .slice fa fn fc] 63)) (w1.heap.size + 1) (some ⟨w1.heap.size, 0, none⟩) (1 * 4) (pks [⟨N, at', el, fa, fn, fc⟩])) := rd_new _ _ _ _ _ _ _ rfl (by omega) rfl rfl
          have hd2 : Hid (L + 1 ≤ maxLen) := by have := hL1.out; show _ ≤ _; unfold maxLen; omega
          have hd3 : Hid ((L + 1) * 48 ≤ 140737488355328) := by have := hL1.out; show _ ≤ _; omega
          have hd4 : Hid (w.heap.size ≤ (w1.alloc (.cells #[.int .i64 (N : Int), .int .i64 at', .bool el, .slice fa fn fc] 63)).heap.size) := by have := HSZ'.out; show _ ≤ _; simp only [World.size_alloc]; omega
          go_wp2_with (at_builtin; refine wpList_app _ rfl (.tmp 48) (.tmp 52) 64 rfl w.heap.size 63 i0 (.agg #[.int .i64 0, .int .i64 0, .bool false, .slice none 0 0]) 4 48 Try.underlying64 HI.out.1 HI.out.2.1 HI.out.2.2.1 HI.out.2.2.2 rfl (by decide) (.slice A3 L c3) L (pks (leftL s os k)) rfl (HK'.out.own.alloc _) (w1.heap.size + 1) (some ⟨w1.heap.size, 0, none⟩) 1 _ (pks [⟨N, at', el, fa, fn, fc⟩]) rfl hd1.out (ones_pks _) hd2.out hd3.out hd4.out ?_)
          intro v5 w5 hown5 hgrow5
          obtain ⟨A5, c5, e5, _⟩ := own_form hown5
          subst e5
          have hb5 : Below w1.heap.size w1 (w1.alloc (.cells #[.int .i64 (N : Int), .int .i64 at', .bool el, .slice fa fn fc] 63)) := (Below.refl _ _).alloc (Nat.le_refl _) _
          have hbw5 : Below w.heap.size w1 w5 := (hb5.mono HSZ'.out).grown hgrow5 hd4.out (fun j hj => (HK'.out.own.lt j hj).1)
          have HL5 := HK'.out.led.keep (hbw5.mono HHI.out.1)
          have hlow : lo ≤ w.heap.size := HHI.out.2
          have hmv5 : Moved lo p w w5 := HK'.out.mv.upper hbw5 hlow
          have hrow5 : w5.heap[g']? = some (.cells row 82 (0, 0)) := (hbw5.block g' HG'.out.2).trans HROW'.out
          have hb5' : w5.heap[b]? = some (.cells (Pk.cells ⟨N, at', el, fa, fn, fc⟩) 63 (0, 0)) := (hbw5.block b HBB.out.2).trans HB3'.out
          have hbg : b ≠ g' := fun e => by
            subst e
            rw [hrow5] at hb5'
            simp at hb5'
          have HR5 : RowIn w5 lo hi (some ⟨g', off, none⟩) c (restO s os k) := HRow.out.mono (Nat.le_refl _) fun b hb _ => hbw5.block b (Nat.lt_of_lt_of_le hb HHI.out.1)
          have hc5 := cell_slot HL5.hp HA.out
          rw [restO_len, hm.out] at hc5
          have hcv5 : w5.cell? ⟨g', off + k, none⟩ = some (.pointer (some ⟨b, 0, none⟩)) := (hbw5.cell (p := ⟨g', off + k, none⟩) HG'.out.2).trans hcv'
          have hfz5 : w5.frozen? ⟨g', off + k, none⟩ = false := free_slot hrow5
          obtain ⟨HL6, HR6⟩ := HL5.setNil HA.out HR5 hrow5 (show k < (restO s os k).length by rw [restO_len, hm.out]; exact hkm)
          have hown6 := ownsRow_setCell_below hown5 (a := ⟨g', off + k, none⟩) HG'.out.2 (.pointer none)
          have hmv6 : Moved lo p w (w5.setCell ⟨g', off + k, none⟩ (.pointer none)) := hmv5.setRow HG'.out.1 hrow5 _ _
          have hb6 := (Below.heap_setCell w5 ⟨g', off + k, none⟩ (.pointer none) b hbg).trans hb5'
          have hel5 := cell_of_row w5 b 2 _ _ _ hb5'
          have hel6 := cell_of_row _ b 2 _ _ _ hb6
          simp only [Pk.cells, List.getElem?_toArray, List.getElem?_cons_zero, List.getElem?_cons_succ] at hel6 hel5
          obtain ⟨fq, hfq⟩ : ∃ q, Hid (els (outs os) - els (leftL s os k) = q) := ⟨_, rfl⟩
          rw [hfq.out] at HL5 HL6
          have hfl5 := HL5.cell.2.2
          have hfl6 := HL6.cell.2.2
          have hfz6 := HL6.free (o + 3)
          rw [← HST.out.2] at HL6
          rw [← pks_app, ← HST.out.1] at hown6
          have hlen6 : L + 1 = (leftL s os (k + 1)).length := by rw [HST.out.1, List.length_append, ← HK'.out.len]; rfl
          have hfqb : fq ≤ 1800000000000 := by
            have h1 : els (outs os) ≤ os.length := Nat.le_trans List.countP_le_length (List.length_filterMap_le _ _)
            have := hfq.out; have := hm.out
            omega
          have hfqI : (fq : Int) ≤ 1800000000000 := by omega
          have hbgI : g' ≠ b := Ne.symm hbg
          have hpg : g' ≠ p := fun e => by
            subst e
            have := HL5.hp
            rw [hrow5] at this
            simp only [Option.some.injEq, Obj.cells.injEq, and_true] at this
            exact HL5.hT.1 this.2.symm
          cases el with
          | false =>
            have HN' : Hid (∃ cur', LvI w (w5.setCell ⟨g', off + k, none⟩ (.pointer none)) lo hi p o T cur os next behind s (N + 1 - first) (L + 1) (.slice A5 (L + 1) c5) cur') := by
              rw [← HK1.out]
              refine ⟨cur', hlen6, hown6, ?_, HK'.out.cs, hmv6⟩
              have : els (outs os) - els (leftL s os (k + 1)) = fq := by rw [HST.out.1, els_app, ← hfq.out]; rfl
              rw [this]; exact HL6
            have hLL := hL1.out
            clear HL5 HL6 HR5 HR6 hown5 hown6 hmv5 hmv6 hgrow5 hb5 hbw5 hlen6 hb6 hb5' hrow5 HST k0 k1 k2 k3 hcv'
            go_wp2_with fail
            refine ⟨⟨N + 1, L + 1, by go_num, by omega, by omega, by omega, hLL, ⟨_, _, rfl⟩, HN'⟩, ?_⟩
            simp [intOf]; omega
          | true =>
            have hf1 : 1 ≤ fq := by have := hle.out; have := hfq.out; have e : els [(⟨N, at', true, fa, fn, fc⟩ : Pk)] = 1 := rfl; omega
            have hf1I : 1 ≤ (fq : Int) := by omega
            have HN' : Hid (∃ cur', LvI w ((w5.setCell ⟨g', off + k, none⟩ (.pointer none)).setCell ⟨p, o + 3, none⟩ (.int .i64 ((fq : Int) - 1))) lo hi p o T cur os next behind s (N + 1 - first) (L + 1) (.slice A5 (L + 1) c5) cur') := by
              rw [← HK1.out]
              refine ⟨cur'.setIfInBounds (o + 3) (.int .i64 ((fq : Int) - 1)), hlen6, ownsRow_setCell_below hown6 (a := ⟨p, o + 3, none⟩) (Nat.lt_of_lt_of_le HL6.hhi HHI.out.1) _, ?_, HK'.out.cs.set (o + 3) (by omega) (.int .i64 ((fq : Int) - 1)), hmv6.setP HL6.hlo _ _⟩
              have : els (outs os) - els (leftL s os (k + 1)) = fq - 1 := by rw [HST.out.1, els_app, ← hfq.out]; show els (outs os) - (els (leftL s os k) + 1) = _; omega
              rw [this]
              exact HL6.setFl (fq - 1) _ (by rw [Int.natCast_sub hf1]; rfl)
            have hLL := hL1.out
            clear HL5 HL6 HR5 HR6 hown5 hown6 hmv5 hmv6 hgrow5 hb5 hbw5 hlen6 hb6 hb5' hrow5 HST k0 k1 k2 k3 hcv'
            go_wp2_with fail
            refine ⟨⟨N + 1, L + 1, by go_num, by omega, by omega, by omega, hLL, ⟨_, _, rfl⟩, HN'⟩, ?_⟩
            simp [intOf]; omega
    · have hen := left_end s os (N - first) (fun k hk => by
        obtain ⟨i, hi, e⟩ := List.getElem_of_mem hk
        rw [List.getElem_drop] at e
        simp only [List.length_drop] at hi
        have h1 := HNUM.out (N - first + i) k (by rw [List.getElem?_eq_getElem (by omega), e])
        rw [← hs.out]
        unfold selB
        rw [decide_eq_false (show ¬ (k.num : Int) < t by omega), Bool.and_false]
        rfl)
      have HEN := Lib.hid hen
      have HTR := Lib.hid (trim_any HK.out.led)
      clear hen
      go_wp2_with fail
      refine (HTR.out).mono ?_
      rintro e w3 ⟨rfl, cur3, os3, hl3, ho3, hs3, hm3⟩
      go_wp2_with fail
      go_ret
      obtain ⟨h1, h2, h3, h4, h5⟩ := HK.out
      have hown3 : w3.ownsRow w.heap.size 63 4 (.slice A3 L c3) L (pks (leftL s os (N - first))) := by
        refine ⟨h2.1, ?_⟩
        rcases h2.2 with h | ⟨gg, cap, cu, e, hb, hh, rest⟩
        · exact .inl h
        · exact .inr ⟨gg, cap, cu, e, hb, (hm3.kept gg (lt_of_block hh) (fun e' => by have := h3.hhi; have := HHI.out.1; omega) (fun row e' => by rw [hh] at e'; simp at e')).trans hh, rest⟩
      rw [HEN.out.1] at h1 hown3 hl3
      subst h1
      refine ⟨A3, c3, cur3, os3, rfl, hown3, ?_, ho3.trans HEN.out.2, h4.trans hs3, h5.trans hm3⟩
      have : els (outs os) - els (List.filter s (outs os)) = els (List.filter (fun k => !s k) (outs os)) := by have := els_split s (outs os); omega
      rwa [this] at hl3
end Go.Proofs.Ytebfjphmlggacaa.Ld
