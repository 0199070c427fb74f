/- The reference's SameFrame, SameFrames of frames that are the same but for their Notes, of a ledger's frames. Conditions: as each theorem lists them. -/
import Derived.Test.YtebfjphmlggacaaJ8
import Derived.Test.YtebfjphmlggacaaJPa
import Derived.Laws.StructEq
import Derived.ChangeKeysEq
import Derived.BigQuiet
import Derived.Deep.RegionHeld3
set_option linter.unusedSimpArgs false
set_option linter.unusedVariables false

namespace Go.Proofs.Ytebfjphmlggacaa.Sq
open Go Go.RowKit Go.Proofs.Ytebfjphmlggacaa Go.Proofs.Ytebfjphmlggacaa.Ld

theorem below_drewN {B : Nat} {w w1 : World} (h : Below B w w1) (m : Nat) : Below B w (w1.drewN m) := ⟨h.os, h.tape, h.output, h.size, h.block⟩

theorem infoInt : (Try.prog.info? 3).map (fun i => (i.zero, i.size, i.bytes)) = some (some (.int .i64 0), 1, 8) := by kernel_rfl
theorem eq2 (x1 y1 : Int) (w : World) : (Op.equalIn 10000 29 (.agg #[.int .i64 x1, .int .i64 y1]) (.agg #[.int .i64 x1, .int .i64 y1])).run Try.prog w = .ok true w := by
  obtain ⟨i, hi, _⟩ := info_parts infoInt
  have hc : Try.prog.cellsOf 3 = 1 := by kernel_rfl
  have u3 := Try.underlying3
  have a3 := Try.isAgg3
  have z3 := Try.sizeOf3
  rw [show (10000 : Nat) = 9999 + 1 from rfl, run_equalIn_array w 9999 _ _ Try.underlying29 hi, hc, show List.range 2 = [0, 1] from rfl]
  simp only [Op.eqItems]
  go_simp

def bare (f : Fr) : Fr := ⟨f.k, f.id, f.off, f.a, f.b, 0, f.fin, f.data, f.spans⟩
theorem parts_of {w : World} {f : Fr} {A1 : Option Addr} {n1 c1 : Nat} {A2 : Option Addr} {n2 c2 : Nat} (h : FrC w f (frC f (.slice A1 n1 c1) (.slice A2 n2 c2))) : f.data.length = n1 ∧ f.spans.length = n2 * 2 ∧ n2 ≤ c2 ∧ Rd w w.heap.size A1 n1 (bv f.data) ∧ Rd w w.heap.size A2 (n2 * 2) (ints f.spans) := by
  obtain ⟨_, _, _, _, _, _, e, l1, l2, o1, o2⟩ := h
  simp only [frC, List.cons.injEq, Value.slice.injEq, true_and, and_true] at e
  obtain ⟨⟨rfl, rfl, rfl⟩, rfl, rfl, rfl⟩ := e
  obtain ⟨_, _, ev, _, _, _, r1⟩ := own_form o1
  simp only [Value.slice.injEq] at ev
  obtain ⟨rfl, _, rfl⟩ := ev
  obtain ⟨_, _, ev, hc2, _, _, r2⟩ := own_form o2
  simp only [Value.slice.injEq] at ev
  obtain ⟨rfl, _, rfl⟩ := ev
  rw [Nat.mul_one] at r1
  exact ⟨l1, l2, hc2, r1, r2⟩

theorem bare_inj {f g : Fr} (h : bare f = bare g) : g.k = f.k ∧ g.id = f.id ∧ g.off = f.off ∧ g.a = f.a ∧ g.b = f.b ∧ g.fin = f.fin ∧ g.data = f.data ∧ g.spans = f.spans := by
  unfold bare at h
  simp only [Fr.mk.injEq] at h
  obtain ⟨h1, h2, h3, h4, h5, _, h6, h7, h8⟩ := h
  exact ⟨h1.symm, h2.symm, h3.symm, h4.symm, h5.symm, h6.symm, h7.symm, h8.symm⟩

set_option maxRecDepth 100000 in
set_option maxHeartbeats 4000000 in
theorem rsame_same (k id off a b no no' : Int) (fin : Bool) (d : List Nat) (es : List Int) (B B' : Nat) (A A' A2 A2' : Option Addr) (n c c' n2 c2 c2' : Nat) (w : World) (h1 : Rd w B A n (bv d)) (h2 : Rd w B' A' n (bv d)) (h3 : Rd w B A2 (n2 * 2) (ints es)) (h4 : Rd w B' A2' (n2 * 2) (ints es)) (hB : B ≤ w.heap.size) (hB' : B' ≤ w.heap.size) (hm : n2 ≤ 17592186044416) (hc1 : n2 ≤ c2) (hc2 : n2 ≤ c2') :
    Calls Try.prog 18 #[.agg #[.int .i64 k, .int .i64 id, .int .i64 off, .int .i64 a, .int .i64 b, .int .i64 no, .bool fin, .slice A n c, .slice A2 n2 c2], .agg #[.int .i64 k, .int .i64 id, .int .i64 off, .int .i64 a, .int .i64 b, .int .i64 no', .bool fin, .slice A' n c', .slice A2' n2 c2']] w fun e w' => e = .returned (.bool true) ∧ Below w.heap.size w w' := by
  obtain ⟨g, hg⟩ : ∃ g, Hid (w.heap.size = g) := ⟨_, rfl⟩
  have hba : Hid (Below w.heap.size w ((w.alloc (.cells #[.int .i64 k, .int .i64 id, .int .i64 off, .int .i64 a, .int .i64 b, .int .i64 no, .bool fin, .slice A n c, .slice A2 n2 c2] 28)).alloc (.cells #[.int .i64 k, .int .i64 id, .int .i64 off, .int .i64 a, .int .i64 b, .int .i64 no', .bool fin, .slice A' n c', .slice A2' n2 c2'] 28))) := ((Below.refl w.heap.size w).alloc (Nat.le_refl _) _).alloc (by simp) _
  have C1 := conv_run (P := Try.prog) ((w.alloc (.cells #[.int .i64 k, .int .i64 id, .int .i64 off, .int .i64 a, .int .i64 b, .int .i64 no, .bool fin, .slice A n c, .slice A2 n2 c2] 28)).alloc (.cells #[.int .i64 k, .int .i64 id, .int .i64 off, .int .i64 a, .int .i64 b, .int .i64 no', .bool fin, .slice A' n c', .slice A2' n2 c2'] 28)) 25 9 5 Try.underlying25 Try.underlying5 Try.underlying9 B A n c d (h1.below hba.out hB)
  have C2 := conv_run (P := Try.prog) ((w.alloc (.cells #[.int .i64 k, .int .i64 id, .int .i64 off, .int .i64 a, .int .i64 b, .int .i64 no, .bool fin, .slice A n c, .slice A2 n2 c2] 28)).alloc (.cells #[.int .i64 k, .int .i64 id, .int .i64 off, .int .i64 a, .int .i64 b, .int .i64 no', .bool fin, .slice A' n c', .slice A2' n2 c2'] 28)) 25 9 5 Try.underlying25 Try.underlying5 Try.underlying9 B' A' n c' d (h2.below hba.out hB')
  have HX := Lib.hid h3
  have HY := Lib.hid h4
  have HBB := Lib.hid (And.intro hB hB')
  have l1 : Hid (es.length = n2 * 2) := by have := h3.1; rw [ints_len] at this; exact this
  have k1 : Hid (((w.alloc (.cells #[.int .i64 k, .int .i64 id, .int .i64 off, .int .i64 a, .int .i64 b, .int .i64 no, .bool fin, .slice A n c, .slice A2 n2 c2] 28)).alloc (.cells #[.int .i64 k, .int .i64 id, .int .i64 off, .int .i64 a, .int .i64 b, .int .i64 no', .bool fin, .slice A' n c', .slice A2' n2 c2'] 28)).heap[w.heap.size]? = some (.cells #[.int .i64 k, .int .i64 id, .int .i64 off, .int .i64 a, .int .i64 b, .int .i64 no, .bool fin, .slice A n c, .slice A2 n2 c2] 28 (0, 0))) := by
    show _ = _
    rw [((Below.refl (w.heap.size + 1) (w.alloc (.cells #[.int .i64 k, .int .i64 id, .int .i64 off, .int .i64 a, .int .i64 b, .int .i64 no, .bool fin, .slice A n c, .slice A2 n2 c2] 28))).alloc (by simp) (.cells #[.int .i64 k, .int .i64 id, .int .i64 off, .int .i64 a, .int .i64 b, .int .i64 no', .bool fin, .slice A' n c', .slice A2' n2 c2'] 28)).block w.heap.size (by omega)]
    exact heap_alloc_new _ _
  have k2 : Hid (((w.alloc (.cells #[.int .i64 k, .int .i64 id, .int .i64 off, .int .i64 a, .int .i64 b, .int .i64 no, .bool fin, .slice A n c, .slice A2 n2 c2] 28)).alloc (.cells #[.int .i64 k, .int .i64 id, .int .i64 off, .int .i64 a, .int .i64 b, .int .i64 no', .bool fin, .slice A' n c', .slice A2' n2 c2'] 28)).heap[w.heap.size + 1]? = some (.cells #[.int .i64 k, .int .i64 id, .int .i64 off, .int .i64 a, .int .i64 b, .int .i64 no', .bool fin, .slice A' n c', .slice A2' n2 c2'] 28 (0, 0))) := by
    show _ = _
    have := heap_alloc_new (w.alloc (.cells #[.int .i64 k, .int .i64 id, .int .i64 off, .int .i64 a, .int .i64 b, .int .i64 no, .bool fin, .slice A n c, .slice A2 n2 c2] 28)) (.cells #[.int .i64 k, .int .i64 id, .int .i64 off, .int .i64 a, .int .i64 b, .int .i64 no', .bool fin, .slice A' n c', .slice A2' n2 c2'] 28)
    simpa using this
  have hff : (fin == fin) = true := by cases fin <;> rfl
  have hmI1 : (n2 : Int) ≤ 17592186044416 := by omega
  have hcI1 : (n2 : Int) ≤ (c2 : Int) := by omega
  have hcI2 : (n2 : Int) ≤ (c2' : Int) := by omega
  clear h1 h2 h3 h4 hB hB' hm hc1 hc2
  go_enter Try.func18, Try.ntmps18
  go_wp2_with fail
  obtain ⟨W2, hW2⟩ : ∃ W2, (w.alloc (.cells #[.int .i64 k, .int .i64 id, .int .i64 off, .int .i64 a, .int .i64 b, .int .i64 no, .bool fin, .slice A n c, .slice A2 n2 c2] 28)).alloc (.cells #[.int .i64 k, .int .i64 id, .int .i64 off, .int .i64 a, .int .i64 b, .int .i64 no', .bool fin, .slice A' n c', .slice A2' n2 c2'] 28) = W2 := ⟨_, rfl⟩
  rw [hW2] at hba k1 k2 ⊢
  clear C1 C2 hW2
  go_loopw [5] (fun i wr => ∃ k : Nat, k ≤ n2 ∧ i = .int .i64 k ∧ Hid (Below W2.heap.size W2 wr)) (fun i _ => n2 - (intOf i).toNat)
  case atStart => exact ⟨0, Nat.zero_le _, rfl, Below.refl _ _⟩
  case round =>
    obtain ⟨q, hq, rfl, HK⟩ := hrel
    have HKW : Hid (Below w.heap.size w wr) := hba.out.trans (HK.out.mono hba.out.size)
    have f1 : wr.heap[w.heap.size]? = some (.cells #[.int .i64 k, .int .i64 id, .int .i64 off, .int .i64 a, .int .i64 b, .int .i64 no, .bool fin, .slice A n c, .slice A2 n2 c2] 28 (0, 0)) := (HK.out.block _ (Array.getElem?_eq_some_iff.1 k1.out).1).trans k1.out
    have f2 : wr.heap[w.heap.size + 1]? = some (.cells #[.int .i64 k, .int .i64 id, .int .i64 off, .int .i64 a, .int .i64 b, .int .i64 no', .bool fin, .slice A' n c', .slice A2' n2 c2'] 28 (0, 0)) := (HK.out.block _ (Array.getElem?_eq_some_iff.1 k2.out).1).trans k2.out
    have y8 := cell_of_row wr w.heap.size 8 _ _ _ f1
    have z8 := cell_of_row wr (w.heap.size + 1) 8 _ _ _ f2
    clear f1 f2
    by_cases hlt : q < n2
    · have hlti : (q : Int) < (n2 : Int) := by omega
      obtain ⟨b1, off1, hA1, hbn1, hcs1⟩ := HX.out.2 (by omega)
      subst hA1
      obtain ⟨b2, off2, hA2, hbn2, hcs2⟩ := HY.out.2 (by omega)
      subst hA2
      obtain ⟨hB, hB'⟩ := HBB.out
      have q1 : 2 * q + 1 < es.length := by have := l1.out; omega
      obtain ⟨x1, hx1⟩ : ∃ x, Hid (es.getD (2 * q) 0 = x) := ⟨_, rfl⟩
      obtain ⟨y1, hy1⟩ : ∃ x, Hid (es.getD (2 * q + 1) 0 = x) := ⟨_, rfl⟩
      have e1 : wr.cell? ⟨b1, off1 + q * 2, none⟩ = some (.int .i64 x1) := by
        rw [HKW.out.cell (p := ⟨b1, off1 + q * 2, none⟩) (Nat.lt_of_lt_of_le hbn1 hB), show off1 + q * 2 = off1 + 2 * q by omega, hcs1 (2 * q) _ (ints_get _ _ (by omega)), hx1.out]
      have e2 : wr.cell? ⟨b1, off1 + q * 2 + 1, none⟩ = some (.int .i64 y1) := by
        rw [HKW.out.cell (p := ⟨b1, off1 + q * 2 + 1, none⟩) (Nat.lt_of_lt_of_le hbn1 hB), show off1 + q * 2 + 1 = off1 + (2 * q + 1) by omega, hcs1 (2 * q + 1) _ (ints_get _ _ (by omega)), hy1.out]
      have e3 : wr.cell? ⟨b2, off2 + q * 2, none⟩ = some (.int .i64 x1) := by
        rw [HKW.out.cell (p := ⟨b2, off2 + q * 2, none⟩) (Nat.lt_of_lt_of_le hbn2 hB'), show off2 + q * 2 = off2 + 2 * q by omega, hcs2 (2 * q) _ (ints_get _ _ (by omega)), hx1.out]
      have e4 : wr.cell? ⟨b2, off2 + q * 2 + 1, none⟩ = some (.int .i64 y1) := by
        rw [HKW.out.cell (p := ⟨b2, off2 + q * 2 + 1, none⟩) (Nat.lt_of_lt_of_le hbn2 hB'), show off2 + q * 2 + 1 = off2 + (2 * q + 1) by omega, hcs2 (2 * q + 1) _ (ints_get _ _ (by omega)), hy1.out]
      clear hcs1 hcs2 hB hB' hbn1 hbn2
      have hguard := Try.eqGuardType29
      have heq := fun W => eq2 x1 y1 W
      go_wp2_with fail
      go_quiet (fail)
      go_wp2_with fail
      go_roundw
      case rel => exact ⟨q + 1, by omega, by go_num, below_drewN HK.out _⟩
      case measure => simp [intOf]; omega
    · have hlti : ¬ (q : Int) < (n2 : Int) := by omega
      obtain rfl : q = n2 := by omega
      go_wp2_with fail
      go_ret
      exact ⟨rfl, HKW.out⟩

/-- The bytes, the runs of a ledger's frame. -/
def dOf (q : Fq) : List Nat := q.ds.map fun v => match v with | .int _ x => x.toNat | _ => 0
def eOf (q : Fq) : List Int := q.ss.map fun v => match v with | .int _ x => x | _ => 0
/-- It reads as a frame that an Ack may carry. -/
def PlQ (q : Fq) : Prop := q.ds = bv (dOf q) ∧ q.ss = ints (eOf q) ∧ q.sn ≤ 8
def frOf (q : Fq) : Fr := ⟨q.k, q.id, q.off, q.a, q.b, q.note, q.fin, dOf q, eOf q⟩
theorem dOf_bv (q : Fq) (d : List Nat) (h : q.ds = bv d) : dOf q = d := by
  unfold dOf
  rw [h]
  simp [bv, Function.comp_def]
theorem eOf_ints (q : Fq) (l : List Int) (h : q.ss = ints l) : eOf q = l := by
  unfold eOf
  rw [h]
  simp [ints, Function.comp_def]
theorem PlQ.of (q : Fq) (d : List Nat) (l : List Int) (h1 : q.ds = bv d) (h2 : q.ss = ints l) (h3 : q.sn ≤ 8) : PlQ q := ⟨by rw [dOf_bv q d h1]; exact h1, by rw [eOf_ints q l h2]; exact h2, h3⟩
theorem PlQ.same {q q' : Fq} (h : PlQ q) (hs : FqSame q q') : PlQ q' := by
  obtain ⟨_, _, _, _, _, _, _, _, h1, h2, h3⟩ := hs
  exact PlQ.of q' (dOf q) (eOf q) (h1.trans h.1) (h3.trans h.2.1) (by rw [h2]; exact h.2.2)
theorem bare_same {q q' : Fq} (hs : FqSame q q') : bare (frOf q') = bare (frOf q) := by
  obtain ⟨h1, h2, h3, h4, h5, _, h6, _, h7, _, h8⟩ := hs
  unfold bare frOf dOf eOf
  rw [h1, h2, h3, h4, h5, h6, h7, h8]
theorem FrC_of {w : World} {lo : Nat} {q : Fq} (h : FqOwn w lo q) (hp : PlQ q) : FrC w (frOf q) (fqC q) ∧ (frOf q).spans.length ≤ 16 := by
  have o1 : w.ownsRow 0 5 1 (.slice q.da q.dn q.dc) q.dn (bv (dOf q)) := by rw [← hp.1]; exact own_base h.1 (Nat.zero_le _)
  have o2 : w.ownsRow 0 29 2 (.slice q.sa q.sn q.sc) q.sn (ints (eOf q)) := by rw [← hp.2.1]; exact own_base h.2 (Nat.zero_le _)
  have l1 : (dOf q).length = q.dn := by have := o1.1; simpa [bv] using this
  have l2 : (eOf q).length = q.sn * 2 := by have := o2.1; simpa [ints] using this
  exact ⟨⟨q.da, q.dn, q.dc, q.sa, q.sn, q.sc, rfl, l1, l2, o1, o2⟩, by have := hp.2.2; show (eOf q).length ≤ 16; omega⟩
theorem FrsC_of {w : World} {lo : Nat} : ∀ (qs : List Fq), (∀ q ∈ qs, FqOwn w lo q ∧ PlQ q) → FrsC w (qs.map frOf) (fqs qs)
  | [], _ => rfl
  | q :: r, h => ⟨fqC q, fqs r, rfl, (FrC_of (h q (by simp)).1 (h q (by simp)).2).1, FrsC_of r fun x hx => h x (List.mem_cons_of_mem _ hx)⟩
/-- Two lists of frames that are the same, wherever they lie. -/
def TwinQ : List Fq → List Fq → Prop
  | [], [] => True
  | q :: r, q' :: r' => FqSame q q' ∧ TwinQ r r'
  | _, _ => False
theorem TwinQ.bare : ∀ {l1 l2 : List Fq}, TwinQ l1 l2 → (l2.map frOf).map bare = (l1.map frOf).map bare
  | [], [], _ => rfl
  | _ :: _, _ :: _, h => by
    simp only [List.map_cons]
    rw [bare_same h.1]
    exact congrArg _ (TwinQ.bare h.2)
  | [], _ :: _, h => h.elim
  | _ :: _, [], h => h.elim
theorem TwinQ.len : ∀ {l1 l2 : List Fq}, TwinQ l1 l2 → l1.length = l2.length
  | [], [], _ => rfl
  | _ :: _, _ :: _, h => by rw [List.length_cons, List.length_cons, TwinQ.len h.2]
  | [], _ :: _, h => h.elim
  | _ :: _, [], h => h.elim
theorem TwinQ.app : ∀ {a b c d : List Fq}, TwinQ a b → TwinQ c d → TwinQ (a ++ c) (b ++ d)
  | [], [], _, _, _, h => h
  | _ :: _, _ :: _, _, _, h, k => ⟨h.1, TwinQ.app h.2 k⟩
  | [], _ :: _, _, _, h, _ => h.elim
  | _ :: _, [], _, _, h, _ => h.elim
theorem TwinQ.of : ∀ {l1 l2 : List Fq}, l1.length = l2.length → (∀ (i : Nat) (q q' : Fq), l1[i]? = some q → l2[i]? = some q' → FqSame q q') → TwinQ l1 l2
  | [], [], _, _ => trivial
  | q :: r, q' :: r', hl, h => ⟨h 0 q q' rfl rfl, TwinQ.of (by simpa using hl) fun i a b ha hb => h (i + 1) a b (by simpa using ha) (by simpa using hb)⟩
  | [], _ :: _, hl, _ => by simp at hl
  | _ :: _, [], hl, _ => by simp at hl
theorem FqSame.refl (q : Fq) : FqSame q q := ⟨rfl, rfl, rfl, rfl, rfl, rfl, rfl, rfl, rfl, rfl, rfl⟩
theorem FqSame.symm {q q' : Fq} (h : FqSame q q') : FqSame q' q := by
  obtain ⟨h1, h2, h3, h4, h5, h6, h7, h8, h9, h10, h11⟩ := h
  exact ⟨h1.symm, h2.symm, h3.symm, h4.symm, h5.symm, h6.symm, h7.symm, h8.symm, h9.symm, h10.symm, h11.symm⟩
theorem TwinQ.symm : ∀ {l1 l2 : List Fq}, TwinQ l1 l2 → TwinQ l2 l1
  | [], [], _ => trivial
  | _ :: _, _ :: _, h => ⟨FqSame.symm h.1, TwinQ.symm h.2⟩
  | [], _ :: _, h => h.elim
  | _ :: _, [], h => h.elim
end Go.Proofs.Ytebfjphmlggacaa.Sq
