/- Same of package frame, of two lists of one frame that bear no more than runs: contracts. Conditions: as each theorem lists them. -/
import Derived.Test.YtoglpjgmnojdjaaF5
import Derived.Laws.StructEq
import Derived.ChangeKeysEq
import Derived.BigQuiet
set_option linter.unusedSimpArgs false
set_option linter.unusedVariables false
namespace Go.Proofs.Ytoglpjgmnojdjaa.Sp
open Go Go.RowKit

theorem infoInt : (Try.prog.info? 3).map (fun i => (i.zero, i.size, i.bytes)) = some (some (.int .i64 0), 1, 8) := by kernel_rfl
theorem cell_at_slot {w : World} {p o : Nat} {T : TypeId} {cur : Array Value} {v : Value} (h : w.heap[p]? = some (.cells cur T (0, 0))) (ho : cur[o]? = some v) : w.cell? ⟨p, o, none⟩ = some v := by simp [World.cell?, h, ho]

set_option maxHeartbeats 1000000 in
theorem beq_same (d : List Nat) (B B' : Nat) (A A' : Option Addr) (n c c' : Nat) (w : World) (h1 : Rd w B A n (bv d)) (h2 : Rd w B' A' n (bv d)) :
    Calls Try.prog 62 #[.slice A n c, .slice A' n c'] w fun e w' => e = .returned (.bool true) ∧ w' = w := by
  have C1 := conv_run (P := Try.prog) w 49 9 5 Try.underlying49 Try.underlying5 Try.underlying9 B A n c d h1
  have C2 := conv_run (P := Try.prog) w 49 9 5 Try.underlying49 Try.underlying5 Try.underlying9 B' A' n c' d h2
  go_enter Try.func62, Try.ntmps62
  go_wp2_with fail
  go_ret
  exact ⟨ret_bool (by simp), rfl⟩

theorem below_drewN {B : Nat} {w w1 : World} (h : Below B w w1) (m : Nat) : Below B w (w1.drewN m) := ⟨h.os, h.tape, h.output, h.size, h.block⟩

theorem eq2 (x1 y1 : Int) (w : World) : (Op.equalIn 10000 57 (.agg #[.int .i64 x1, .int .i64 y1]) (.agg #[.int .i64 x1, .int .i64 y1])).run Try.prog w = .ok true w := by
  obtain ⟨i, hi, _⟩ := info_parts infoInt
  have hc : Try.prog.cellsOf 3 = 1 := by kernel_rfl
  have u3 := Try.underlying3
  have a3 := Try.isAgg3
  have z3 := Try.sizeOf3
  rw [show (10000 : Nat) = 9999 + 1 from rfl, run_equalIn_array w 9999 _ _ Try.underlying57 hi, hc, show List.range 2 = [0, 1] from rfl]
  simp only [Op.eqItems]
  go_simp

set_option maxHeartbeats 2000000 in
theorem runsEq_same (xs : List Int) (B B' : Nat) (A1 A2 : Option Addr) (c1 c2 n1 : Nat) (w : World) (h1 : Rd w B A1 (n1 * 2) (ints xs)) (h2 : Rd w B' A2 (n1 * 2) (ints xs)) (hB : B ≤ w.heap.size) (hB' : B' ≤ w.heap.size) (hm1 : n1 ≤ 17592186044416) (hc1 : n1 ≤ c1) (hc2 : n1 ≤ c2) :
    Calls Try.prog 63 #[.slice A1 n1 c1, .slice A2 n1 c2] w fun e w' => e = .returned (.bool true) ∧ Below w.heap.size w w' := by
  have HX := Lib.hid h1
  have HY := Lib.hid h2
  have l1 : Hid (xs.length = n1 * 2) := by have := h1.1; rw [ints_len] at this; exact this
  have hmI1 : (n1 : Int) ≤ 17592186044416 := by omega
  have hcI1 : (n1 : Int) ≤ (c1 : Int) := by omega
  have hcI2 : (n1 : Int) ≤ (c2 : Int) := by omega
  clear h1 h2
  go_enter Try.func63, Try.ntmps63
  go_wp2_with fail
  go_loopw [13] (fun i wr => ∃ k : Nat, k ≤ n1 ∧ i = .int .i64 k ∧ Hid (Below w.heap.size w wr)) (fun i _ => n1 - (intOf i).toNat)
  case atStart => exact ⟨0, Nat.zero_le _, rfl, Below.refl _ _⟩
  case round =>
    obtain ⟨k, hk, rfl, HK⟩ := hrel
    by_cases hlt : k < n1
    · have hlti : (k : Int) < (n1 : Int) := by omega
      obtain ⟨b1, off1, hA1, hbn1, hcs1⟩ := HX.out.2 (by omega)
      subst hA1
      obtain ⟨b2, off2, hA2, hbn2, hcs2⟩ := HY.out.2 (by omega)
      subst hA2
      have q1 : 2 * k + 1 < xs.length := by have := l1.out; omega
      obtain ⟨x1, hx1⟩ : ∃ x, Hid (xs.getD (2 * k) 0 = x) := ⟨_, rfl⟩
      obtain ⟨y1, hy1⟩ : ∃ x, Hid (xs.getD (2 * k + 1) 0 = x) := ⟨_, rfl⟩
      have e1 : wr.cell? ⟨b1, off1 + k * 2, none⟩ = some (.int .i64 x1) := by
        rw [HK.out.cell (p := ⟨b1, off1 + k * 2, none⟩) (Nat.lt_of_lt_of_le hbn1 hB), show off1 + k * 2 = off1 + 2 * k by omega, hcs1 (2 * k) _ (ints_get _ _ (by omega)), hx1.out]
      have e2 : wr.cell? ⟨b1, off1 + k * 2 + 1, none⟩ = some (.int .i64 y1) := by
        rw [HK.out.cell (p := ⟨b1, off1 + k * 2 + 1, none⟩) (Nat.lt_of_lt_of_le hbn1 hB), show off1 + k * 2 + 1 = off1 + (2 * k + 1) by omega, hcs1 (2 * k + 1) _ (ints_get _ _ (by omega)), hy1.out]
      have e3 : wr.cell? ⟨b2, off2 + k * 2, none⟩ = some (.int .i64 x1) := by
        rw [HK.out.cell (p := ⟨b2, off2 + k * 2, none⟩) (Nat.lt_of_lt_of_le hbn2 hB'), show off2 + k * 2 = off2 + 2 * k by omega, hcs2 (2 * k) _ (ints_get _ _ (by omega)), hx1.out]
      have e4 : wr.cell? ⟨b2, off2 + k * 2 + 1, none⟩ = some (.int .i64 y1) := by
        rw [HK.out.cell (p := ⟨b2, off2 + k * 2 + 1, none⟩) (Nat.lt_of_lt_of_le hbn2 hB'), show off2 + k * 2 + 1 = off2 + (2 * k + 1) by omega, hcs2 (2 * k + 1) _ (ints_get _ _ (by omega)), hy1.out]
      clear hcs1 hcs2
      have hguard := Try.eqGuardType57
      have heq := fun W => eq2 x1 y1 W
      go_wp2_with fail
      go_quiet (fail)
      go_wp2_with fail
      go_roundw
      case rel => exact ⟨k + 1, by omega, by go_num, below_drewN HK.out _⟩
      case measure => simp [intOf]; omega
    · have hlti : ¬ (k : Int) < (n1 : Int) := by omega
      obtain rfl : k = n1 := by omega
      go_wp2_with fail
      go_ret
      exact ⟨rfl, HK.out⟩

set_option maxRecDepth 100000 in
set_option maxHeartbeats 4000000 in
theorem same_same (k id off a b no no' : Int) (fin : Bool) (d : List Nat) (es : List Int) (B B' : Nat) (A A' A2 A2' : Option Addr) (n c c' n2 c2 c2' : Nat) (w : World) (h1 : Rd w B A n (bv d)) (h2 : Rd w B' A' n (bv d)) (h3 : Rd w B A2 (n2 * 2) (ints es)) (h4 : Rd w B' A2' (n2 * 2) (ints es)) (hB : B ≤ w.heap.size) (hB' : B' ≤ w.heap.size) (hm : n2 ≤ 17592186044416) (hc1 : n2 ≤ c2) (hc2 : n2 ≤ c2') :
    Calls Try.prog 56 #[.agg #[.int .i64 k, .int .i64 id, .int .i64 off, .int .i64 a, .int .i64 b, .int .i64 no, .bool fin, .slice A n c, .slice A2 n2 c2], .agg #[.int .i64 k, .int .i64 id, .int .i64 off, .int .i64 a, .int .i64 b, .int .i64 no', .bool fin, .slice A' n c', .slice A2' n2 c2']] w fun e w' => e = .returned (.bool true) ∧ Below w.heap.size w w' := by
  have HB1 : Hid (∀ W, Below w.heap.size w W → Calls Try.prog 62 #[.slice A n c, .slice A' n c'] W fun e w' => e = .returned (.bool true) ∧ w' = W) := fun W hW => beq_same d B B' A A' n c c' W (h1.below hW hB) (h2.below hW hB')
  have HB2 : Hid (∀ W, Below w.heap.size w W → Calls Try.prog 63 #[.slice A2 n2 c2, .slice A2' n2 c2'] W fun e w' => e = .returned (.bool true) ∧ Below W.heap.size W w') := fun W hW => runsEq_same es B B' A2 A2' c2 c2' n2 W (h3.below hW hB) (h4.below hW hB') (Nat.le_trans hB hW.size) (Nat.le_trans hB' hW.size) hm hc1 hc2
  clear h1 h2 h3 h4 hB hB' hm hc1 hc2
  have hff : (fin == fin) = true := by cases fin <;> rfl
  go_enter Try.func56, Try.ntmps56
  go_wp2_with fail
  have hba := ((Below.refl w.heap.size w).alloc (Nat.le_refl _) (.cells #[.int .i64 k, .int .i64 id, .int .i64 off, .int .i64 a, .int .i64 b, .int .i64 no, .bool fin, .slice A n c, .slice A2 n2 c2] 51)).alloc (by simp) (.cells #[.int .i64 k, .int .i64 id, .int .i64 off, .int .i64 a, .int .i64 b, .int .i64 no', .bool fin, .slice A' n c', .slice A2' n2 c2'] 51)
  have HBA := Lib.hid hba
  clear hba
  refine (HB1.out _ HBA.out).mono ?_
  rintro e w' ⟨rfl, hw⟩
  subst hw
  go_wp2_with fail
  refine (HB2.out _ HBA.out).mono ?_
  rintro e w' ⟨rfl, hb⟩
  have HBB : Hid (Below w.heap.size w w') := HBA.out.trans (hb.mono HBA.out.size)
  clear hb
  go_wp2_with fail
  go_ret
  exact ⟨rfl, HBB.out⟩

set_option maxRecDepth 100000 in
set_option maxHeartbeats 4000000 in
theorem eqf_one (kk : Int) (es : List Int) (g1 g2 : Nat) (A2 A2' : Option Addr) (n2 c2 c2' : Nat) (w : World) (h1 : w.heap[g1]? = some (.cells #[.int .i64 kk, .int .i64 0, .int .i64 0, .int .i64 0, .int .i64 0, .int .i64 0, .bool false, .slice none 0 0, .slice A2 n2 c2] 51 (0, 0))) (h2 : w.heap[g2]? = some (.cells #[.int .i64 kk, .int .i64 0, .int .i64 0, .int .i64 0, .int .i64 0, .int .i64 0, .bool false, .slice none 0 0, .slice A2' n2 c2'] 51 (0, 0)))
    (r1 : Rd w w.heap.size A2 (n2 * 2) (ints es)) (r2 : Rd w w.heap.size A2' (n2 * 2) (ints es)) (hn : n2 ≤ 8) (hc : n2 ≤ c2) (hc' : n2 ≤ c2') :
    Calls Try.prog 55 #[.slice (some ⟨g1, 0, none⟩) 1 1, .slice (some ⟨g2, 0, none⟩) 1 1, .func (.func 56) #[] #[]] w fun e w' => e = .returned (.bool true) ∧ Below w.heap.size w w' := by
  have H1 := Lib.hid h1
  have H2 := Lib.hid h2
  have HL1 : Hid (g1 < w.heap.size) := (Array.getElem?_eq_some_iff.1 h1).1
  have HL2 : Hid (g2 < w.heap.size) := (Array.getElem?_eq_some_iff.1 h2).1
  have HSM : Hid (∀ W, Below w.heap.size w W → Calls Try.prog 56 #[.agg #[.int .i64 kk, .int .i64 0, .int .i64 0, .int .i64 0, .int .i64 0, .int .i64 0, .bool false, .slice none 0 0, .slice A2 n2 c2], .agg #[.int .i64 kk, .int .i64 0, .int .i64 0, .int .i64 0, .int .i64 0, .int .i64 0, .bool false, .slice none 0 0, .slice A2' n2 c2']] W fun e w' => e = .returned (.bool true) ∧ Below W.heap.size W w') := fun W hW =>
    same_same kk 0 0 0 0 0 0 false [] es w.heap.size w.heap.size none none A2 A2' 0 0 0 n2 c2 c2' W (Rd.nil _ _ _) (Rd.nil _ _ _) (r1.below hW (Nat.le_refl _)) (r2.below hW (Nat.le_refl _)) hW.size hW.size (by omega) hc hc'
  clear h1 h2 r1 r2
  go_enter Try.func55, Try.ntmps55
  go_wp2_with fail
  go_loopw [17] (fun i wr => ∃ k : Nat, k ≤ 1 ∧ i = .int .i64 k ∧ Hid (Below w.heap.size w wr)) (fun i _ => 1 - (intOf i).toNat)
  case atStart => exact ⟨0, Nat.zero_le _, rfl, Below.refl _ _⟩
  case round =>
    obtain ⟨k, hk, rfl, HB⟩ := hrel
    by_cases hlt : k < 1
    · obtain rfl : k = 0 := by omega
      clear hlt hk
      have hb1 := (HB.out.block g1 HL1.out).trans H1.out
      have hyF : Hid (Below w.heap.size w (wr.alloc (.cells #[.int .i64 kk, .int .i64 0, .int .i64 0, .int .i64 0, .int .i64 0, .int .i64 0, .bool false, .slice none 0 0, .slice A2 n2 c2] 51))) := HB.out.alloc HB.out.size _
      have hb2 := (hyF.out.block g2 HL2.out).trans H2.out
      have l0 := cell_at_slot (o := 0) hb1 rfl
      have l1 := cell_at_slot (o := 1) hb1 rfl
      have l2 := cell_at_slot (o := 2) hb1 rfl
      have l3 := cell_at_slot (o := 3) hb1 rfl
      have l4 := cell_at_slot (o := 4) hb1 rfl
      have l5 := cell_at_slot (o := 5) hb1 rfl
      have l6 := cell_at_slot (o := 6) hb1 rfl
      have l7 := cell_at_slot (o := 7) hb1 rfl
      have l8 := cell_at_slot (o := 8) hb1 rfl
      have m0 := cell_at_slot (o := 0) hb2 rfl
      have m1 := cell_at_slot (o := 1) hb2 rfl
      have m2 := cell_at_slot (o := 2) hb2 rfl
      have m3 := cell_at_slot (o := 3) hb2 rfl
      have m4 := cell_at_slot (o := 4) hb2 rfl
      have m5 := cell_at_slot (o := 5) hb2 rfl
      have m6 := cell_at_slot (o := 6) hb2 rfl
      have m7 := cell_at_slot (o := 7) hb2 rfl
      have m8 := cell_at_slot (o := 8) hb2 rfl
      clear hb1 hb2
      go_wp2_with fail
      have hba := hyF.out.alloc hyF.out.size (.cells #[.int .i64 kk, .int .i64 0, .int .i64 0, .int .i64 0, .int .i64 0, .int .i64 0, .bool false, .slice none 0 0, .slice A2' n2 c2'] 51)
      have HBA := Lib.hid hba
      clear hba
      refine (HSM.out _ HBA.out).mono ?_
      rintro e w1 ⟨rfl, hb⟩
      have HB1 : Hid (Below w.heap.size w w1) := HBA.out.trans (hb.mono HBA.out.size)
      clear hb
      go_wp2_with fail
      go_roundw
      case rel => exact ⟨1, by omega, by go_num, HB1⟩
      case measure => simp [intOf]
    · obtain rfl : k = 1 := by omega
      go_wp2_with fail
      go_ret
      exact ⟨rfl, HB.out⟩

theorem same_one (kk : Int) (es : List Int) (g1 g2 : Nat) (A2 A2' : Option Addr) (n2 c2 c2' : Nat) (w : World) (h1 : w.heap[g1]? = some (.cells #[.int .i64 kk, .int .i64 0, .int .i64 0, .int .i64 0, .int .i64 0, .int .i64 0, .bool false, .slice none 0 0, .slice A2 n2 c2] 51 (0, 0))) (h2 : w.heap[g2]? = some (.cells #[.int .i64 kk, .int .i64 0, .int .i64 0, .int .i64 0, .int .i64 0, .int .i64 0, .bool false, .slice none 0 0, .slice A2' n2 c2'] 51 (0, 0)))
    (r1 : Rd w w.heap.size A2 (n2 * 2) (ints es)) (r2 : Rd w w.heap.size A2' (n2 * 2) (ints es)) (hn : n2 ≤ 8) (hc : n2 ≤ c2) (hc' : n2 ≤ c2') :
    Calls Try.prog 39 #[.slice (some ⟨g1, 0, none⟩) 1 1, .slice (some ⟨g2, 0, none⟩) 1 1] w fun e w' => e = .returned (.bool true) ∧ Below w.heap.size w w' := by
  have HE := Lib.hid (eqf_one kk es g1 g2 A2 A2' n2 c2 c2' w h1 h2 r1 r2 hn hc hc')
  clear h1 h2 r1 r2
  go_enter Try.func39, Try.ntmps39
  go_wp2_with fail
  refine HE.out.mono ?_
  rintro e w1 ⟨rfl, hb⟩
  have HB := Lib.hid hb
  clear hb
  go_wp2_with fail
  go_ret
  exact ⟨rfl, HB.out⟩
end Go.Proofs.Ytoglpjgmnojdjaa.Sp
