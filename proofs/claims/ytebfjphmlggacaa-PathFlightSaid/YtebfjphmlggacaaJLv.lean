/- The ledger's copied: the same frames in new memory: a contract. Conditions: as each theorem lists them. -/
import Derived.Test.YtebfjphmlggacaaJLu
set_option linter.unusedSimpArgs false
set_option linter.unusedVariables false

namespace Go.Proofs.Ytebfjphmlggacaa.Ld
open Go Go.RowKit Go.Proofs.Ytebfjphmlggacaa Go.Proofs.Ytebfjphmlggacaa.Sp

/-- A frame in memory: its numbers, where its bytes and runs lie, what they are (cells). -/
structure Fq where
  k : Int
  id : Int
  off : Int
  a : Int
  b : Int
  note : Int
  fin : Bool
  da : Option Addr
  dn : Nat
  dc : Nat
  ds : List Value
  sa : Option Addr
  sn : Nat
  sc : Nat
  ss : List Value
def fqC (q : Fq) : List Value := [.int .i64 q.k, .int .i64 q.id, .int .i64 q.off, .int .i64 q.a, .int .i64 q.b, .int .i64 q.note, .bool q.fin, .slice q.da q.dn q.dc, .slice q.sa q.sn q.sc]
def fqs (l : List Fq) : List Value := l.flatMap fqC
theorem fqs_len : ∀ l : List Fq, (fqs l).length = l.length * 9
  | [] => rfl
  | q :: r => by
    show (fqC q ++ fqs r).length = (r.length + 1) * 9
    rw [List.length_append, fqs_len r]
    show 9 + _ = _
    omega
theorem ones_fqs (l : List Fq) : ones (fqs l) := fun u hu => by
  simp only [fqs, List.mem_flatMap] at hu
  obtain ⟨q, _, hu⟩ := hu
  simp only [fqC, List.mem_cons, List.not_mem_nil, or_false] at hu
  rcases hu with rfl | rfl | rfl | rfl | rfl | rfl | rfl | rfl | rfl <;> rfl
theorem fqs_get : ∀ (l : List Fq) (i : Nat) (q : Fq), l[i]? = some q → ∀ j, j < 9 → (fqs l)[i * 9 + j]? = (fqC q)[j]?
  | [], i, q, h, _, _ => by simp at h
  | x :: r, 0, q, h, j, hj => by
    simp only [List.length_cons, List.getElem?_cons_zero, Option.some.injEq] at h
    subst h
    show (fqC x ++ fqs r)[0 * 9 + j]? = _
    rw [Nat.zero_mul, Nat.zero_add, List.getElem?_append_left (by show j < 9; exact hj)]
  | x :: r, i + 1, q, h, j, hj => by
    show (fqC x ++ fqs r)[(i + 1) * 9 + j]? = _
    rw [List.getElem?_append_right (by show 9 ≤ _; omega)]
    rw [show (i + 1) * 9 + j - (fqC x).length = i * 9 + j by show _ - 9 = _; omega]
    exact fqs_get r i q (by simpa using h) j hj
theorem fqs_set : ∀ (l : List Fq) (i : Nat) (q q' : Fq), l[i]? = some q → ∀ j u, j < 9 → fqC q' = (fqC q).set j u → (fqs l).set (i * 9 + j) u = fqs (l.set i q')
  | [], i, q, q', h, _, _, _, _ => by simp at h
  | x :: r, 0, q, q', h, j, u, hj, he => by
    simp only [List.length_cons, List.getElem?_cons_zero, Option.some.injEq] at h
    subst h
    show (fqC x ++ fqs r).set (0 * 9 + j) u = fqC q' ++ fqs r
    rw [Nat.zero_mul, Nat.zero_add, List.set_append_left _ _ (by show j < 9; exact hj), he]
  | x :: r, i + 1, q, q', h, j, u, hj, he => by
    show (fqC x ++ fqs r).set ((i + 1) * 9 + j) u = fqC x ++ fqs (r.set i q')
    rw [List.set_append_right _ _ (by show 9 ≤ _; omega)]
    rw [show (i + 1) * 9 + j - (fqC x).length = i * 9 + j by show _ - 9 = _; omega]
    rw [fqs_set r i q q' (by simpa using h) j u hj he]

/-- It reads so. -/
def FqOk (w : World) (q : Fq) : Prop := Rd w w.heap.size q.da q.dn q.ds ∧ ones q.ds ∧ q.dn ≤ 1800000000000 ∧ Rd w w.heap.size q.sa (q.sn * 2) q.ss ∧ ones q.ss ∧ q.sn ≤ 1800000000000
/-- It reads so, in rows of the call's own. -/
def FqOwn (w : World) (base : Nat) (q : Fq) : Prop := w.ownsRow base 5 1 (.slice q.da q.dn q.dc) q.dn q.ds ∧ w.ownsRow base 29 2 (.slice q.sa q.sn q.sc) q.sn q.ss
/-- The same frame, wherever it lies. -/
def FqSame (q q' : Fq) : Prop := q'.k = q.k ∧ q'.id = q.id ∧ q'.off = q.off ∧ q'.a = q.a ∧ q'.b = q.b ∧ q'.note = q.note ∧ q'.fin = q.fin ∧ q'.dn = q.dn ∧ q'.ds = q.ds ∧ q'.sn = q.sn ∧ q'.ss = q.ss
theorem FqOk.below {w w' : World} {q : Fq} (h : FqOk w q) (hb : Below w.heap.size w w') : FqOk w' q :=
  ⟨(h.1.below hb (Nat.le_refl _)).more hb.size, h.2.1, h.2.2.1, (h.2.2.2.1.below hb (Nat.le_refl _)).more hb.size, h.2.2.2.2⟩
theorem FqOwn.keep {w w' : World} {base : Nat} {q : Fq} (h : FqOwn w base q) (hb : Below w.heap.size w w') : FqOwn w' base q := ⟨own_below h.1 hb, own_below h.2 hb⟩
/-- A cell of a row of frames is written. -/
theorem own_setFrame {w : World} {base e size n g j : Nat} {v u : Value} {xs : List Value} {cur : Array Value} (h : w.ownsRow base e size v n xs) (hg : w.heap[g]? = some (.cells cur 28 (0, 0))) (he : e ≠ 28) : (w.setCell ⟨g, j, none⟩ u).ownsRow base e size v n xs := by
  refine ownsRow_setCell_other h ?_ u
  rcases h.2 with ⟨rfl, _⟩ | ⟨g', cap, cu, rfl, _, hh, _⟩
  · simp [Value.ownBlock]
  · simp only [Value.ownBlock, ne_eq, Option.some.injEq]
    intro e'
    subst e'
    rw [hg] at hh
    simp only [Option.some.injEq, Obj.cells.injEq, and_true] at hh
    exact he hh.2.symm

theorem FqOwn.setFrame {w : World} {base g j : Nat} {u : Value} {q : Fq} {cur : Array Value} (h : FqOwn w base q) (hg : w.heap[g]? = some (.cells cur 28 (0, 0))) : FqOwn (w.setCell ⟨g, j, none⟩ u) base q := ⟨own_setFrame h.1 hg (by decide), own_setFrame h.2 hg (by decide)⟩
/-- Behind k frames. -/
structure CopI (w wr : World) (qs : List Fq) (k : Nat) (g c : Nat) (qs' : List Fq) : Prop where
  len : qs'.length = qs.length
  own : wr.ownsRow w.heap.size 28 9 (.slice (some ⟨g, 0, none⟩) qs.length c) qs.length (fqs qs')
  done : ∀ i q q', i < k → qs[i]? = some q → qs'[i]? = some q' → FqSame q q' ∧ FqOwn wr w.heap.size q'
  rest : ∀ i, k ≤ i → qs'[i]? = qs[i]?
  below : Below w.heap.size w wr

set_option maxRecDepth 100000 in
set_option maxHeartbeats 8000000 in
theorem copied_any (qs : List Fq) (n c : Nat) (A : Option Addr) (w : World) (hl : qs.length = n) (hx : Rd w w.heap.size A (n * 9) (fqs qs)) (hq : ∀ q ∈ qs, FqOk w q) (hn : n ≤ 1048576) :
    Calls Try.prog 37 #[.slice A n c] w fun e w' => ∃ A' c' qs', e = .returned (.slice A' n c') ∧ qs'.length = n ∧ w'.ownsRow w.heap.size 28 9 (.slice A' n c') n (fqs qs') ∧ (∀ (i : Nat) (q q' : Fq), qs[i]? = some q → qs'[i]? = some q' → FqSame q q' ∧ FqOwn w' w.heap.size q') ∧ Below w.heap.size w w' := by
  have HCL := Lib.hid (clone_frames n c A (fqs qs) w hx (ones_fqs _) (by omega))
  have HQ := Lib.hid hq
  have hnI : (n : Int) ≤ 1048576 := by omega
  have HLN := Lib.hid hl
  clear hx hq hl
  go_enter Try.func37, Try.ntmps37
  go_wp2_with fail
  refine (HCL.out).mono ?_
  rintro e w1 ⟨v1, rfl, ho1, hb1⟩
  obtain ⟨A1, c1, e1, hc1, _⟩ := own_form ho1
  subst e1
  have hnc : (n : Int) ≤ (c1 : Int) := by omega
  rcases Nat.eq_zero_or_pos n with h0 | h0
  · subst h0
    have hqs : qs = [] := List.eq_nil_of_length_eq_zero HLN.out
    subst hqs
    have HF : Hid (w1.ownsRow w.heap.size 28 9 (.slice A1 0 c1) 0 (fqs []) ∧ Below w.heap.size w w1) := ⟨ho1, hb1⟩
    clear ho1 hb1 HCL
    go_wp2_with fail
    refine wp_loop_rounds 1 ?_
    rw [rounds_succ]
    go_wp2
    go_ret
    exact ⟨A1, c1, [], rfl, rfl, HF.out.1, fun i q q' h => by simp at h, HF.out.2⟩
  · obtain ⟨g, hA⟩ : ∃ g, A1 = some ⟨g, 0, none⟩ := by
      rcases ho1.2 with ⟨_, e⟩ | ⟨g, _, _, e, _⟩
      · omega
      · simp only [Value.slice.injEq] at e; exact ⟨g, e.1⟩
    subst hA
    have HI0 : Hid (CopI w w1 qs 0 g c1 qs) := ⟨rfl, by rw [HLN.out]; exact ho1, fun i q q' h => by omega, fun i _ => rfl, hb1⟩
    clear ho1 hb1 HCL
    go_wp2_with fail
    go_loopw [8] (fun i wr => ∃ k : Nat, i = .int .i64 (k : Int) ∧ k ≤ n ∧ Hid (∃ qs', CopI w wr qs k g c1 qs')) (fun i _ => n - (intOf i).toNat)
    case atStart => exact ⟨0, rfl, Nat.zero_le _, qs, HI0.out⟩
    case round =>
      obtain ⟨k, rfl, hk, HK⟩ := hrel
      clear HI0
      obtain ⟨qs', hK⟩ := HK.out
      clear HK
      by_cases hkl : k < n
      · have hklI : (k : Int) < (n : Int) := by omega
        obtain ⟨q, hqk⟩ : ∃ q, qs[k]? = some q := ⟨_, List.getElem?_eq_getElem (by rw [HLN.out]; exact hkl)⟩
        have hqk' : qs'[k]? = some q := (hK.rest k (Nat.le_refl _)).trans hqk
        have hok := (HQ.out q (List.mem_of_getElem? hqk)).below hK.below
        obtain ⟨_, _, cu, ecu, hgb, hgh, _⟩ : ∃ g' cap cur, (Value.slice (some ⟨g, 0, none⟩) qs.length c1) = .slice (some ⟨g', 0, none⟩) qs.length cap ∧ w.heap.size ≤ g' ∧ wr.heap[g']? = some (.cells cur 28 (0, 0)) ∧ True := by
          rcases hK.own.2 with ⟨e, _⟩ | ⟨g', cap, cur, e, h1, h2, _⟩
          · cases e
          · exact ⟨g', cap, cur, e, h1, h2, trivial⟩
        simp only [Value.slice.injEq, Option.some.injEq, Addr.mk.injEq, and_true, true_and] at ecu
        obtain ⟨rfl, rfl⟩ := ecu
        have hlq : k < qs.length := by rw [HLN.out]; exact hkl
        have c7 : wr.cell? ⟨g, k * 9 + 7, none⟩ = some (.slice q.da q.dn q.dc) := by
          rw [hK.own.cellAt (k * 9 + 7) (by omega)]; exact fqs_get qs' k q hqk' 7 (by omega)
        have f7 : wr.frozen? ⟨g, k * 9 + 7, none⟩ = false := hK.own.frozenAt _
        have hcl := clone_bytes q.dn q.dc q.da q.ds wr (by rw [Nat.mul_one]; exact hok.1) hok.2.1 (by have := hok.2.2.1; omega)
        have HCB := Lib.hid hcl
        have HK := Lib.hid hK
        have HOK := Lib.hid hok
        have HGH := Lib.hid hgh
        have HGB : Hid (w.heap.size ≤ g) := hgb
        clear hcl hK hok hgh hgb
        have hc8 : wr.cell? ⟨g, k * 9 + 8, none⟩ = some (.slice q.sa q.sn q.sc) := by
          rw [HK.out.own.cellAt (k * 9 + 8) (by omega)]; exact fqs_get qs' k q hqk' 8 (by omega)
        have HC8 := Lib.hid hc8
        have HKQ := Lib.hid hqk
        have HKQ' := Lib.hid hqk'
        clear hc8 hqk hqk'
        go_wp2_with fail
        refine (HCB.out).mono ?_
        rintro e w2 ⟨v2, rfl, ho2, hb2⟩
        obtain ⟨A2, c2, e2, _⟩ := own_form ho2
        subst e2
        have hglt := lt_of_block HGH.out
        have hg2 : w2.heap[g]? = some (.cells cu 28 (0, 0)) := (hb2.block g hglt).trans HGH.out
        have c72 : w2.cell? ⟨g, k * 9 + 7, none⟩ = some (.slice q.da q.dn q.dc) := (hb2.cell (p := ⟨g, k * 9 + 7, none⟩) hglt).trans c7
        have f72 : w2.frozen? ⟨g, k * 9 + 7, none⟩ = false := (hb2.frozen (p := ⟨g, k * 9 + 7, none⟩) hglt).trans f7
        have HO2 := Lib.hid ho2
        have HB2 := Lib.hid hb2
        have HG2 := Lib.hid hg2
        clear ho2 hb2 hg2 HCB c7 f7
        go_upto_region 6 with (fail)
        obtain ⟨w3, hw3⟩ : ∃ x, w2.setCell ⟨g, k * 9 + 7, none⟩ (.slice A2 q.dn c2) = x := ⟨_, rfl⟩
        rw [hw3]
        have hg3 : w3.heap[g]? = some (.cells (cu.setIfInBounds (k * 9 + 7) (.slice A2 q.dn c2)) 28 (0, 0)) := by rw [← hw3]; exact set_slot HG2.out _ _
        have hown3 : w3.ownsRow w.heap.size 28 9 (.slice (some ⟨g, 0, none⟩) qs.length c1) qs.length (fqs (qs'.set k { q with da := A2, dc := c2 })) := by
          rw [← hw3, ← fqs_set qs' k q { q with da := A2, dc := c2 } HKQ'.out 7 (.slice A2 q.dn c2) (by omega) rfl]
          exact ((own_below HK.out.own HB2.out).stored (k * 9 + 7) (.slice A2 q.dn c2)).1
        have hb3 : Below w.heap.size w w3 := by rw [← hw3]; exact (HK.out.below.trans (HB2.out.mono HK.out.below.size)).setCell HGB.out _
        have hd3 : w3.ownsRow w.heap.size 5 1 (.slice A2 q.dn c2) q.dn q.ds := by rw [← hw3]; exact own_setFrame (own_base HO2.out HK.out.below.size) HG2.out (by decide)
        have hdn3 : ∀ i q q', i < k → qs[i]? = some q → qs'[i]? = some q' → FqSame q q' ∧ FqOwn w3 w.heap.size q' := fun i a b h1 h2 h3 => by
          have := HK.out.done i a b h1 h2 h3
          rw [← hw3]
          exact ⟨this.1, (this.2.keep HB2.out).setFrame HG2.out⟩
        have hq1 : (qs'.set k { q with da := A2, dc := c2 })[k]? = some { q with da := A2, dc := c2 } := by
          rw [List.getElem?_set, if_pos rfl, if_pos (by rw [HK.out.len]; exact hlq)]
        have c83 : w3.cell? ⟨g, k * 9 + 8, none⟩ = some (.slice q.sa q.sn q.sc) := by
          rw [hown3.cellAt (k * 9 + 8) (by omega)]; exact fqs_get _ k _ hq1 8 (by omega)
        have f83 : w3.frozen? ⟨g, k * 9 + 8, none⟩ = false := hown3.frozenAt _
        have hok3 := (HQ.out q (List.mem_of_getElem? HKQ.out)).below hb3
        have HCR := Lib.hid (clone_runs q.sn q.sc q.sa q.ss w3 hok3.2.2.2.1 hok3.2.2.2.2.1 (by have := hok3.2.2.2.2.2; omega))
        have HG3 := Lib.hid hg3
        have HO3 := Lib.hid hown3
        have HB3 := Lib.hid hb3
        have HD3 := Lib.hid hd3
        have HN3 := Lib.hid hdn3
        have HQ1 := Lib.hid hq1
        clear hw3 hg3 hown3 hb3 hd3 hdn3 hok3 c72 f72 hq1
        go_wp2_with fail
        refine (HCR.out).mono ?_
        rintro e w4 ⟨v4, rfl, ho4, hb4⟩
        obtain ⟨A4, c4, e4, _⟩ := own_form ho4
        subst e4
        have hglt3 := lt_of_block HG3.out
        have hg4 := (hb4.block g hglt3).trans HG3.out
        have c84 : w4.cell? ⟨g, k * 9 + 8, none⟩ = some (.slice q.sa q.sn q.sc) := (hb4.cell (p := ⟨g, k * 9 + 8, none⟩) hglt3).trans c83
        have f84 : w4.frozen? ⟨g, k * 9 + 8, none⟩ = false := (hb4.frozen (p := ⟨g, k * 9 + 8, none⟩) hglt3).trans f83
        have HN' : Hid (∃ qs', CopI w (w4.setCell ⟨g, k * 9 + 8, none⟩ (.slice A4 q.sn c4)) qs (k + 1) g c1 qs') := by
          refine ⟨qs'.set k { q with da := A2, dc := c2, sa := A4, sc := c4 }, by rw [List.length_set]; exact HK.out.len, ?_, fun i a b h1 h2 h3 => ?_, fun i h1 => ?_, (HB3.out.trans (hb4.mono HB3.out.size)).setCell HGB.out _⟩
          · have h1 := ((own_below HO3.out hb4).stored (k * 9 + 8) (.slice A4 q.sn c4)).1
            rw [fqs_set _ k { q with da := A2, dc := c2 } { q with da := A2, dc := c2, sa := A4, sc := c4 } HQ1.out 8 (.slice A4 q.sn c4) (by omega) rfl, List.set_set] at h1
            exact h1
          · rw [List.getElem?_set] at h3
            by_cases hik : k = i
            · subst hik
              rw [if_pos rfl, if_pos (by rw [HK.out.len]; exact hlq)] at h3
              simp only [Option.some.injEq] at h3
              subst h3
              rw [HKQ.out] at h2
              simp only [Option.some.injEq] at h2
              subst h2
              exact ⟨⟨rfl, rfl, rfl, rfl, rfl, rfl, rfl, rfl, rfl, rfl, rfl⟩, own_setFrame (own_below HD3.out hb4) hg4 (by decide), own_setFrame (own_base ho4 HB3.out.size) hg4 (by decide)⟩
            · rw [if_neg hik] at h3
              have := HN3.out i a b (by omega) h2 h3
              exact ⟨this.1, (this.2.keep hb4).setFrame hg4⟩
          · rw [List.getElem?_set, if_neg (by omega)]
            exact HK.out.rest i (by omega)
        clear ho4 hb4 hg4 HCR HG3 HO3 HB3 HD3 HN3 HQ1 c83 f83 HK HOK HGH HGB HC8 HKQ HKQ' HO2 HB2 HG2
        go_wp2_with fail
        refine ⟨⟨k + 1, by go_num, by omega, HN'⟩, ?_⟩
        simp [intOf]; omega
      · have hklI : ¬ (k : Int) < (n : Int) := by omega
        obtain rfl : k = n := by omega
        have HK := Lib.hid hK
        clear hK
        go_wp2_with fail
        go_ret
        obtain ⟨h1, h2, h3, h4, h5⟩ := HK.out
        rw [HLN.out] at h1 h2
        exact ⟨some ⟨g, 0, none⟩, c1, rfl, qs', h1, h2, fun i q q' hi hi' => h3 i q q' (by have := (List.getElem?_eq_some_iff.1 hi).1; have := HLN.out; omega) hi hi', h5⟩
end Go.Proofs.Ytebfjphmlggacaa.Ld
