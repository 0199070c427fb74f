/- bytes.Equal, slices.Equal of runs, same of package frame, of what reads the same: contracts. Conditions: as each theorem lists them. Same of package frame, of lists that are the same but for their Notes: a contract. Conditions: as each theorem lists them. -/
import Derived.Test.YtkphmgfjlbdpgaaDoorJ7
import Derived.Laws.StructEq
import Derived.ChangeKeysEq
import Derived.BigQuiet
import Derived.Test.YtkphmgfjlbdpgaaDoorJ5
set_option linter.unusedSimpArgs false
set_option linter.unusedVariables false

namespace Go.Proofs.YtkphmgfjlbdpgaaDoor
open Go Go.RowKit

set_option maxHeartbeats 1000000 in
theorem beq_same (d : List Nat) (B B' : Nat) (A A' : Option Addr) (n c c' : Nat) (w : World) (h1 : Rd w B A n (bv d)) (h2 : Rd w B' A' n (bv d)) :
    Calls Tryd.prog 77 #[.slice A n c, .slice A' n c'] w fun e w' => e = .returned (.bool true) ∧ w' = w := by
  have C1 := conv_run (P := Tryd.prog) w 24 9 5 Tryd.underlying24 Tryd.underlying5 Tryd.underlying9 B A n c d h1
  have C2 := conv_run (P := Tryd.prog) w 24 9 5 Tryd.underlying24 Tryd.underlying5 Tryd.underlying9 B' A' n c' d h2
  go_enter Tryd.func77, Tryd.ntmps77
  go_wp2_with fail
  go_ret
  exact ⟨ret_bool (by simp), rfl⟩

theorem below_drewN {B : Nat} {w w1 : World} (h : Below B w w1) (m : Nat) : Below B w (w1.drewN m) := ⟨h.os, h.tape, h.output, h.size, h.block⟩

theorem eq2 (x1 y1 : Int) (w : World) : (Op.equalIn 10000 22 (.agg #[.int .i64 x1, .int .i64 y1]) (.agg #[.int .i64 x1, .int .i64 y1])).run Tryd.prog w = .ok true w := by
  obtain ⟨i, hi, _⟩ := info_parts infoInt
  have hc : Tryd.prog.cellsOf 3 = 1 := by kernel_rfl
  have u3 := Tryd.underlying3
  have a3 := Tryd.isAgg3
  have z3 := Tryd.sizeOf3
  rw [show (10000 : Nat) = 9999 + 1 from rfl, run_equalIn_array w 9999 _ _ Tryd.underlying22 hi, hc, show List.range 2 = [0, 1] from rfl]
  simp only [Op.eqItems]
  go_simp

set_option maxHeartbeats 2000000 in
theorem runsEq_same (xs : List Int) (B B' : Nat) (A1 A2 : Option Addr) (c1 c2 n1 : Nat) (w : World) (h1 : Rd w B A1 (n1 * 2) (ints xs)) (h2 : Rd w B' A2 (n1 * 2) (ints xs)) (hB : B ≤ w.heap.size) (hB' : B' ≤ w.heap.size) (hm1 : n1 ≤ 17592186044416) (hc1 : n1 ≤ c1) (hc2 : n1 ≤ c2) :
    Calls Tryd.prog 78 #[.slice A1 n1 c1, .slice A2 n1 c2] w fun e w' => e = .returned (.bool true) ∧ Below w.heap.size w w' := by
  have HX := Lib.hid h1
  have HY := Lib.hid h2
  have l1 : Hid (xs.length = n1 * 2) := by have := h1.1; rw [ints_len] at this; exact this
  have hmI1 : (n1 : Int) ≤ 17592186044416 := by omega
  have hcI1 : (n1 : Int) ≤ (c1 : Int) := by omega
  have hcI2 : (n1 : Int) ≤ (c2 : Int) := by omega
  clear h1 h2
  go_enter Tryd.func78, Tryd.ntmps78
  go_wp2_with fail
  go_loopw [13] (fun i wr => ∃ k : Nat, k ≤ n1 ∧ i = .int .i64 k ∧ Hid (Below w.heap.size w wr)) (fun i _ => n1 - (intOf i).toNat)
  case atStart => exact ⟨0, Nat.zero_le _, rfl, Below.refl _ _⟩
  case round =>
    obtain ⟨k, hk, rfl, HK⟩ := hrel
    by_cases hlt : k < n1
    · have hlti : (k : Int) < (n1 : Int) := by omega
      obtain ⟨b1, off1, hA1, hbn1, hcs1⟩ := HX.out.2 (by omega)
      subst hA1
      obtain ⟨b2, off2, hA2, hbn2, hcs2⟩ := HY.out.2 (by omega)
      subst hA2
      have q1 : 2 * k + 1 < xs.length := by have := l1.out; omega
      obtain ⟨x1, hx1⟩ : ∃ x, Hid (xs.getD (2 * k) 0 = x) := ⟨_, rfl⟩
      obtain ⟨y1, hy1⟩ : ∃ x, Hid (xs.getD (2 * k + 1) 0 = x) := ⟨_, rfl⟩
      have e1 : wr.cell? ⟨b1, off1 + k * 2, none⟩ = some (.int .i64 x1) := by
        rw [HK.out.cell (p := ⟨b1, off1 + k * 2, none⟩) (Nat.lt_of_lt_of_le hbn1 hB), show off1 + k * 2 = off1 + 2 * k by omega, hcs1 (2 * k) _ (ints_get _ _ (by omega)), hx1.out]
      have e2 : wr.cell? ⟨b1, off1 + k * 2 + 1, none⟩ = some (.int .i64 y1) := by
        rw [HK.out.cell (p := ⟨b1, off1 + k * 2 + 1, none⟩) (Nat.lt_of_lt_of_le hbn1 hB), show off1 + k * 2 + 1 = off1 + (2 * k + 1) by omega, hcs1 (2 * k + 1) _ (ints_get _ _ (by omega)), hy1.out]
      have e3 : wr.cell? ⟨b2, off2 + k * 2, none⟩ = some (.int .i64 x1) := by
        rw [HK.out.cell (p := ⟨b2, off2 + k * 2, none⟩) (Nat.lt_of_lt_of_le hbn2 hB'), show off2 + k * 2 = off2 + 2 * k by omega, hcs2 (2 * k) _ (ints_get _ _ (by omega)), hx1.out]
      have e4 : wr.cell? ⟨b2, off2 + k * 2 + 1, none⟩ = some (.int .i64 y1) := by
        rw [HK.out.cell (p := ⟨b2, off2 + k * 2 + 1, none⟩) (Nat.lt_of_lt_of_le hbn2 hB'), show off2 + k * 2 + 1 = off2 + (2 * k + 1) by omega, hcs2 (2 * k + 1) _ (ints_get _ _ (by omega)), hy1.out]
      clear hcs1 hcs2
      have hguard := Tryd.eqGuardType22
      have heq := fun W => eq2 x1 y1 W
      go_wp2_with fail
      go_quiet (fail)
      go_wp2_with fail
      go_roundw
      case rel => exact ⟨k + 1, by omega, by go_num, below_drewN HK.out _⟩
      case measure => simp [intOf]; omega
    · have hlti : ¬ (k : Int) < (n1 : Int) := by omega
      obtain rfl : k = n1 := by omega
      go_wp2_with fail
      go_ret
      exact ⟨rfl, HK.out⟩

set_option maxRecDepth 100000 in
set_option maxHeartbeats 4000000 in
theorem same_same (k id off a b no no' : Int) (fin : Bool) (d : List Nat) (es : List Int) (B B' : Nat) (A A' A2 A2' : Option Addr) (n c c' n2 c2 c2' : Nat) (w : World) (h1 : Rd w B A n (bv d)) (h2 : Rd w B' A' n (bv d)) (h3 : Rd w B A2 (n2 * 2) (ints es)) (h4 : Rd w B' A2' (n2 * 2) (ints es)) (hB : B ≤ w.heap.size) (hB' : B' ≤ w.heap.size) (hm : n2 ≤ 17592186044416) (hc1 : n2 ≤ c2) (hc2 : n2 ≤ c2') :
    Calls Tryd.prog 38 #[.agg #[.int .i64 k, .int .i64 id, .int .i64 off, .int .i64 a, .int .i64 b, .int .i64 no, .bool fin, .slice A n c, .slice A2 n2 c2], .agg #[.int .i64 k, .int .i64 id, .int .i64 off, .int .i64 a, .int .i64 b, .int .i64 no', .bool fin, .slice A' n c', .slice A2' n2 c2']] w fun e w' => e = .returned (.bool true) ∧ Below w.heap.size w w' := by
  have HB1 : Hid (∀ W, Below w.heap.size w W → Calls Tryd.prog 77 #[.slice A n c, .slice A' n c'] W fun e w' => e = .returned (.bool true) ∧ w' = W) := fun W hW => beq_same d B B' A A' n c c' W (h1.below hW hB) (h2.below hW hB')
  have HB2 : Hid (∀ W, Below w.heap.size w W → Calls Tryd.prog 78 #[.slice A2 n2 c2, .slice A2' n2 c2'] W fun e w' => e = .returned (.bool true) ∧ Below W.heap.size W w') := fun W hW => runsEq_same es B B' A2 A2' c2 c2' n2 W (h3.below hW hB) (h4.below hW hB') (Nat.le_trans hB hW.size) (Nat.le_trans hB' hW.size) hm hc1 hc2
  clear h1 h2 h3 h4 hB hB' hm hc1 hc2
  have hff : (fin == fin) = true := by cases fin <;> rfl
  go_enter Tryd.func38, Tryd.ntmps38
  go_wp2_with fail
  have hba := ((Below.refl w.heap.size w).alloc (Nat.le_refl _) (.cells #[.int .i64 k, .int .i64 id, .int .i64 off, .int .i64 a, .int .i64 b, .int .i64 no, .bool fin, .slice A n c, .slice A2 n2 c2] 26)).alloc (by simp) (.cells #[.int .i64 k, .int .i64 id, .int .i64 off, .int .i64 a, .int .i64 b, .int .i64 no', .bool fin, .slice A' n c', .slice A2' n2 c2'] 26)
  have HBA := Lib.hid hba
  clear hba
  refine (HB1.out _ HBA.out).mono ?_
  rintro e w' ⟨rfl, hw⟩
  subst hw
  go_wp2_with fail
  refine (HB2.out _ HBA.out).mono ?_
  rintro e w' ⟨rfl, hb⟩
  have HBB : Hid (Below w.heap.size w w') := HBA.out.trans (hb.mono HBA.out.size)
  clear hb
  go_wp2_with fail
  go_ret
  exact ⟨rfl, HBB.out⟩
end Go.Proofs.YtkphmgfjlbdpgaaDoor

namespace Go.Proofs.YtkphmgfjlbdpgaaDoor
open Go Go.RowKit

theorem FrC.parts {w : World} {f : Fr} {A1 : Option Addr} {n1 c1 : Nat} {A2 : Option Addr} {n2 c2 : Nat} (h : FrC w f (frC f (.slice A1 n1 c1) (.slice A2 n2 c2))) : f.data.length = n1 ∧ f.spans.length = n2 * 2 ∧ n2 ≤ c2 ∧ Rd w w.heap.size A1 n1 (bv f.data) ∧ Rd w w.heap.size A2 (n2 * 2) (ints f.spans) := by
  obtain ⟨_, _, _, _, _, _, e, l1, l2, o1, o2⟩ := h
  simp only [frC, List.cons.injEq, Value.slice.injEq, true_and, and_true] at e
  obtain ⟨⟨rfl, rfl, rfl⟩, rfl, rfl, rfl⟩ := e
  obtain ⟨_, _, ev, _, _, _, r1⟩ := own_form o1
  simp only [Value.slice.injEq] at ev
  obtain ⟨rfl, _, rfl⟩ := ev
  obtain ⟨_, _, ev, hc2, _, _, r2⟩ := own_form o2
  simp only [Value.slice.injEq] at ev
  obtain ⟨rfl, _, rfl⟩ := ev
  rw [Nat.mul_one] at r1
  exact ⟨l1, l2, hc2, r1, r2⟩

theorem bare_inj {f g : Fr} (h : bare f = bare g) : g.k = f.k ∧ g.id = f.id ∧ g.off = f.off ∧ g.a = f.a ∧ g.b = f.b ∧ g.fin = f.fin ∧ g.data = f.data ∧ g.spans = f.spans := by
  unfold bare at h
  simp only [Fr.mk.injEq] at h
  obtain ⟨h1, h2, h3, h4, h5, _, h6, h7, h8⟩ := h
  exact ⟨h1.symm, h2.symm, h3.symm, h4.symm, h5.symm, h6.symm, h7.symm, h8.symm⟩

set_option maxRecDepth 100000 in
set_option maxHeartbeats 4000000 in
theorem eqf_same (fs gs : List Fr) (hfg : fs.map bare = gs.map bare) (A A' : Option Addr) (n c c' : Nat) (w : World) (h : Frs w A n c fs) (h' : Frs w A' n c' gs) (hn : n ≤ 1000000) (hsm : ∀ f ∈ fs, f.spans.length ≤ 16) :
    Calls Tryd.prog 37 #[.slice A n c, .slice A' n c', .func (.func 38) #[] #[]] w fun e w' => e = .returned (.bool true) ∧ Below w.heap.size w w' := by
  have HH := Lib.hid h
  have HH' := Lib.hid h'
  have HFG := Lib.hid hfg
  have HSP := Lib.hid hsm
  have hci : (n : Int) ≤ (c : Int) := by have := h.2.1; omega
  have hci' : (n : Int) ≤ (c' : Int) := by have := h'.2.1; omega
  have hni : (n : Int) ≤ 1000000 := by omega
  clear h h' hfg hsm
  go_enter Tryd.func37, Tryd.ntmps37
  go_wp2_with fail
  go_loopw [17] (fun i wr => ∃ k : Nat, k ≤ n ∧ i = .int .i64 k ∧ Hid (Below w.heap.size w wr)) (fun i _ => n - (intOf i).toNat)
  case atStart => exact ⟨0, Nat.zero_le _, rfl, Below.refl _ _⟩
  case round =>
    obtain ⟨k, hk, rfl, HB⟩ := hrel
    by_cases hlt : k < n
    · have hlti : (k : Int) < (n : Int) := by omega
      obtain ⟨b, off, f, A1, n1, c1, A2, n2, c2, hA, hbl, hf, hfc, hcell⟩ := HH.out.get k hlt
      subst hA
      obtain ⟨b', off', g, A1', n1', c1', A2', n2', c2', hA', hbl', hf', hfc', hcell'⟩ := HH'.out.get k hlt
      subst hA'
      have hbe : bare f = bare g := by
        have h1 : (fs.map bare)[k]? = some (bare f) := by rw [List.getElem?_map, hf]; rfl
        have h2 : (gs.map bare)[k]? = some (bare g) := by rw [List.getElem?_map, hf']; rfl
        rw [HFG.out, h2] at h1
        exact (Option.some.inj h1).symm
      obtain ⟨ek, ei, eo, ea, eb, ef, ed, es⟩ := bare_inj hbe
      have hsl := HSP.out f (List.mem_of_getElem? hf)
      obtain ⟨p1, p2, p3, p4, p5⟩ := hfc.parts
      obtain ⟨q1, q2, q3, q4, q5⟩ := hfc'.parts
      rw [ed] at q1 q4
      rw [es] at q2 q5
      obtain rfl : n1' = n1 := by omega
      obtain rfl : n2' = n2 := by omega
      have HSM : Hid (∀ W, Below w.heap.size w W → Calls Tryd.prog 38 #[.agg #[.int .i64 f.k, .int .i64 f.id, .int .i64 f.off, .int .i64 f.a, .int .i64 f.b, .int .i64 f.note, .bool f.fin, .slice A1 n1' c1, .slice A2 n2' c2], .agg #[.int .i64 f.k, .int .i64 f.id, .int .i64 f.off, .int .i64 f.a, .int .i64 f.b, .int .i64 g.note, .bool f.fin, .slice A1' n1' c1', .slice A2' n2' c2']] W fun e w' => e = .returned (.bool true) ∧ Below W.heap.size W w') := fun W hW =>
        same_same f.k f.id f.off f.a f.b f.note g.note f.fin f.data f.spans w.heap.size w.heap.size A1 A1' A2 A2' n1' c1 c1' n2' c2 c2' W (p4.below hW (Nat.le_refl _)) (q4.below hW (Nat.le_refl _)) (p5.below hW (Nat.le_refl _)) (q5.below hW (Nat.le_refl _)) hW.size hW.size (by omega) p3 q3
      have cc : ∀ j, wr.cell? ⟨b, off + k * 9 + j, none⟩ = w.cell? ⟨b, off + k * 9 + j, none⟩ := fun j => HB.out.cell (p := ⟨b, off + k * 9 + j, none⟩) hbl
      have hyF : Hid (Below w.heap.size w (wr.alloc (.cells #[.int .i64 f.k, .int .i64 f.id, .int .i64 f.off, .int .i64 f.a, .int .i64 f.b, .int .i64 f.note, .bool f.fin, .slice A1 n1' c1, .slice A2 n2' c2] 26))) := HB.out.alloc HB.out.size _
      have cc' : ∀ j, (wr.alloc (.cells #[.int .i64 f.k, .int .i64 f.id, .int .i64 f.off, .int .i64 f.a, .int .i64 f.b, .int .i64 f.note, .bool f.fin, .slice A1 n1' c1, .slice A2 n2' c2] 26)).cell? ⟨b', off' + k * 9 + j, none⟩ = w.cell? ⟨b', off' + k * 9 + j, none⟩ := fun j => hyF.out.cell (p := ⟨b', off' + k * 9 + j, none⟩) hbl'
      have l0 : wr.cell? ⟨b, off + k * 9, none⟩ = some (.int .i64 f.k) := (cc 0).trans (hcell 0 _ rfl)
      have l1 : wr.cell? ⟨b, off + k * 9 + 1, none⟩ = some (.int .i64 f.id) := (cc 1).trans (hcell 1 _ rfl)
      have l2 : wr.cell? ⟨b, off + k * 9 + 2, none⟩ = some (.int .i64 f.off) := (cc 2).trans (hcell 2 _ rfl)
      have l3 : wr.cell? ⟨b, off + k * 9 + 3, none⟩ = some (.int .i64 f.a) := (cc 3).trans (hcell 3 _ rfl)
      have l4 : wr.cell? ⟨b, off + k * 9 + 4, none⟩ = some (.int .i64 f.b) := (cc 4).trans (hcell 4 _ rfl)
      have l5 : wr.cell? ⟨b, off + k * 9 + 5, none⟩ = some (.int .i64 f.note) := (cc 5).trans (hcell 5 _ rfl)
      have l6 : wr.cell? ⟨b, off + k * 9 + 6, none⟩ = some (.bool f.fin) := (cc 6).trans (hcell 6 _ rfl)
      have l7 : wr.cell? ⟨b, off + k * 9 + 7, none⟩ = some (.slice A1 n1' c1) := (cc 7).trans (hcell 7 _ rfl)
      have l8 : wr.cell? ⟨b, off + k * 9 + 8, none⟩ = some (.slice A2 n2' c2) := (cc 8).trans (hcell 8 _ rfl)
      have m0 : (wr.alloc (.cells #[.int .i64 f.k, .int .i64 f.id, .int .i64 f.off, .int .i64 f.a, .int .i64 f.b, .int .i64 f.note, .bool f.fin, .slice A1 n1' c1, .slice A2 n2' c2] 26)).cell? ⟨b', off' + k * 9, none⟩ = some (.int .i64 f.k) := by have h := (cc' 0).trans (hcell' 0 _ rfl); rw [ek] at h; exact h
      have m1 : (wr.alloc (.cells #[.int .i64 f.k, .int .i64 f.id, .int .i64 f.off, .int .i64 f.a, .int .i64 f.b, .int .i64 f.note, .bool f.fin, .slice A1 n1' c1, .slice A2 n2' c2] 26)).cell? ⟨b', off' + k * 9 + 1, none⟩ = some (.int .i64 f.id) := by have h := (cc' 1).trans (hcell' 1 _ rfl); rw [ei] at h; exact h
      have m2 : (wr.alloc (.cells #[.int .i64 f.k, .int .i64 f.id, .int .i64 f.off, .int .i64 f.a, .int .i64 f.b, .int .i64 f.note, .bool f.fin, .slice A1 n1' c1, .slice A2 n2' c2] 26)).cell? ⟨b', off' + k * 9 + 2, none⟩ = some (.int .i64 f.off) := by have h := (cc' 2).trans (hcell' 2 _ rfl); rw [eo] at h; exact h
      have m3 : (wr.alloc (.cells #[.int .i64 f.k, .int .i64 f.id, .int .i64 f.off, .int .i64 f.a, .int .i64 f.b, .int .i64 f.note, .bool f.fin, .slice A1 n1' c1, .slice A2 n2' c2] 26)).cell? ⟨b', off' + k * 9 + 3, none⟩ = some (.int .i64 f.a) := by have h := (cc' 3).trans (hcell' 3 _ rfl); rw [ea] at h; exact h
      have m4 : (wr.alloc (.cells #[.int .i64 f.k, .int .i64 f.id, .int .i64 f.off, .int .i64 f.a, .int .i64 f.b, .int .i64 f.note, .bool f.fin, .slice A1 n1' c1, .slice A2 n2' c2] 26)).cell? ⟨b', off' + k * 9 + 4, none⟩ = some (.int .i64 f.b) := by have h := (cc' 4).trans (hcell' 4 _ rfl); rw [eb] at h; exact h
      have m5 : (wr.alloc (.cells #[.int .i64 f.k, .int .i64 f.id, .int .i64 f.off, .int .i64 f.a, .int .i64 f.b, .int .i64 f.note, .bool f.fin, .slice A1 n1' c1, .slice A2 n2' c2] 26)).cell? ⟨b', off' + k * 9 + 5, none⟩ = some (.int .i64 g.note) := (cc' 5).trans (hcell' 5 _ rfl)
      have m6 : (wr.alloc (.cells #[.int .i64 f.k, .int .i64 f.id, .int .i64 f.off, .int .i64 f.a, .int .i64 f.b, .int .i64 f.note, .bool f.fin, .slice A1 n1' c1, .slice A2 n2' c2] 26)).cell? ⟨b', off' + k * 9 + 6, none⟩ = some (.bool f.fin) := by have h := (cc' 6).trans (hcell' 6 _ rfl); rw [ef] at h; exact h
      have m7 : (wr.alloc (.cells #[.int .i64 f.k, .int .i64 f.id, .int .i64 f.off, .int .i64 f.a, .int .i64 f.b, .int .i64 f.note, .bool f.fin, .slice A1 n1' c1, .slice A2 n2' c2] 26)).cell? ⟨b', off' + k * 9 + 7, none⟩ = some (.slice A1' n1' c1') := (cc' 7).trans (hcell' 7 _ rfl)
      have m8 : (wr.alloc (.cells #[.int .i64 f.k, .int .i64 f.id, .int .i64 f.off, .int .i64 f.a, .int .i64 f.b, .int .i64 f.note, .bool f.fin, .slice A1 n1' c1, .slice A2 n2' c2] 26)).cell? ⟨b', off' + k * 9 + 8, none⟩ = some (.slice A2' n2' c2') := (cc' 8).trans (hcell' 8 _ rfl)
      clear cc cc' hcell hcell' hf hf' hfc hfc' hbe ek ei eo ea eb ef ed es p1 p2 p3 p4 p5 q1 q2 q3 q4 q5 hsl
      go_wp2_with fail
      have hba := hyF.out.alloc hyF.out.size (.cells #[.int .i64 f.k, .int .i64 f.id, .int .i64 f.off, .int .i64 f.a, .int .i64 f.b, .int .i64 g.note, .bool f.fin, .slice A1' n1' c1', .slice A2' n2' c2'] 26)
      have HBA := Lib.hid hba
      clear hba
      refine (HSM.out _ HBA.out).mono ?_
      rintro e w1 ⟨rfl, hb⟩
      have HB1 : Hid (Below w.heap.size w w1) := HBA.out.trans (hb.mono HBA.out.size)
      clear hb
      go_wp2_with fail
      go_roundw
      case rel => exact ⟨k + 1, by omega, by go_num, HB1⟩
      case measure => simp [intOf]; omega
    · have hlti : ¬ (k : Int) < (n : Int) := by omega
      go_wp2_with fail
      go_ret
      exact ⟨rfl, HB.out⟩

theorem same_ok (fs gs : List Fr) (hfg : fs.map bare = gs.map bare) (A A' : Option Addr) (n c c' : Nat) (w : World) (h : Frs w A n c fs) (h' : Frs w A' n c' gs) (hn : n ≤ 1000000) (hsm : ∀ f ∈ fs, f.spans.length ≤ 16) :
    Calls Tryd.prog 15 #[.slice A n c, .slice A' n c'] w fun e w' => e = .returned (.bool true) ∧ Below w.heap.size w w' := by
  have HE := Lib.hid (eqf_same fs gs hfg A A' n c c' w h h' hn hsm)
  clear h h' hfg hsm
  go_enter Tryd.func15, Tryd.ntmps15
  go_wp2_with fail
  refine HE.out.mono ?_
  rintro e w1 ⟨rfl, hb⟩
  have HB := Lib.hid hb
  clear hb
  go_wp2_with fail
  go_ret
  exact ⟨rfl, HB.out⟩
end Go.Proofs.YtkphmgfjlbdpgaaDoor
