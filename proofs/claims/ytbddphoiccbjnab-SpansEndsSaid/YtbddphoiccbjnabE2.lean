/- SpansEnds: the walk. Conditions: none. -/
import Derived.Test.YtbddphoiccbjnabE1
import Derived.BigGuardPart
namespace Go.Proofs.Ytbddphoiccbjnab.Ends
open Go Go.RowKit

set_option maxRecDepth 100000 in
set_option maxHeartbeats 8000000 in
theorem walk (n m : Int) (w : World) :
    Calls Try.prog 8 #[.int .i64 n, .int .i64 m] w fun e w' => e = .returned (.bool true) ∧ Below w.heap.size w w' := by
  obtain ⟨a, ha⟩ : ∃ a, Hid (n % 50 = a) := ⟨_, rfl⟩
  obtain ⟨b, hb⟩ : ∃ b, Hid (m % 50 = b) := ⟨_, rfl⟩
  have a0 : 0 ≤ a := by have := ha.out; omega
  have a1 : a < 50 := by have := ha.out; omega
  have b0 : 0 ≤ b := by have := hb.out; omega
  have b1 : b < 50 := by have := hb.out; omega
  have P1 : Hid (∀ W, Calls Try.prog 23 #[.int .i64 n, .int .i64 50] W fun e w' => e = .returned (.int .i64 a) ∧ W = w') := fun W => by
    have := pick_any n 50 W (by decide) (by decide)
    rwa [ha.out] at this
  have P2 : Hid (∀ W, Calls Try.prog 23 #[.int .i64 m, .int .i64 50] W fun e w' => e = .returned (.int .i64 b) ∧ W = w') := fun W => by
    have := pick_any m 50 W (by decide) (by decide)
    rwa [hb.out] at this
  go_enter Try.func8, Try.ntmps8
  go_wp2_with fail
  refine (P1.out _).mono ?_; rintro e w' ⟨rfl, rfl⟩
  go_wp2_with fail
  refine (P2.out _).mono ?_; rintro e w' ⟨rfl, rfl⟩
  go_wp2_with fail
  obtain ⟨p, hp⟩ : ∃ p, Hid (w.heap.size = p) := ⟨_, rfl⟩
  obtain ⟨w0, hw0⟩ : ∃ w0, w.alloc (.cells #[.slice none 0 0] 24) = w0 := ⟨_, rfl⟩
  rw [hw0]
  try rw [hp.out]
  have S0 : Hid (SetIn w0 p []) := by rw [← hw0, ← hp.out]; exact set_new w
  have B0 : Hid (Below p w w0) := by rw [← hw0, ← hp.out]; exact (Below.refl _ _).alloc (Nat.le_refl _) _
  clear hw0
  have A1 := Lib.hid (add_any [] p (4611686018427387903 - a) 9223372036854775807 w0 S0.out (by decide))
  refine A1.out.mono ?_
  rintro e w1 ⟨rfl, h1, h2⟩
  have S1 := Lib.hid h1
  have B1 : Hid (Below p w w1) := B0.out.trans (grown_below h2 (Nat.le_of_lt S0.out.lt) (Nat.le_refl _))
  clear h1 h2 A1
  go_wp2_with fail
  have A2 := Lib.hid (add_any _ p (-9223372036854775808) b w1 S1.out (by rw [turn_nil _ _ (by unfold clamp; omega)]; simp))
  refine A2.out.mono ?_
  rintro e w2 ⟨rfl, h1, h2⟩
  rw [ends_turn a b a0 a1 b0 b1] at h1
  have S2 := Lib.hid h1
  have B2 : Hid (Below p w w2) := B1.out.trans (grown_below h2 (Nat.le_of_lt S1.out.lt) (Nat.le_refl _))
  clear h1 h2 A2 S0 S1 B0 B1
  go_wp2_with fail
  have O1 := Lib.hid (of_any [-1, -9223372036854775808, 9223372036854775807, 4611686018427387904] (w2.heap.size + 1) (some ⟨w2.heap.size, 0, none⟩) 4 (w2.alloc (.cells #[.int .i64 (-1), .int .i64 (-9223372036854775808), .int .i64 9223372036854775807, .int .i64 4611686018427387904] 3)) (rd_new _ _ _ _ _ _ _ rfl (by omega) rfl rfl) (by simp) (by decide) (by decide) (by decide))
  refine O1.out.mono ?_
  rintro e w3 ⟨es, A3, c3, rfl, hsv, hmem, _, hb⟩
  have e0 := of_none es hsv.1 hmem
  subst e0
  have V3 := Lib.hid hsv
  have B23 : Hid (Below w2.heap.size w2 w3) := ((Below.refl _ _).alloc (Nat.le_refl _) _).trans (hb.mono (by simp))
  have S3 : Hid (SetIn w3 p (endsF a b)) := S2.out.below B23.out
  have B3 : Hid (Below p w w3) := B2.out.trans (B23.out.mono (Nat.le_of_lt S2.out.lt))
  clear hsv hmem hb O1
  go_wp2_with fail
  obtain ⟨q, hq⟩ : ∃ q, Hid (w3.heap.size = q) := ⟨_, rfl⟩
  obtain ⟨w4, hw4⟩ : ∃ w4, w3.alloc (.cells #[.slice A3 ([] : List Int).length c3] 24) = w4 := ⟨_, rfl⟩
  have Q4 : Hid (SetIn w4 q []) := by rw [← hw4, ← hq.out]; exact V3.out.put
  have S4 : Hid (SetIn w4 p (endsF a b)) := by rw [← hw4]; exact S3.out.below ((Below.refl _ _).alloc (Nat.le_refl _) _)
  have B4 : Hid (Below p w w4) := by rw [← hw4]; exact B3.out.alloc (Nat.le_of_lt S3.out.lt) _
  change w3.alloc (.cells #[.slice A3 0 c3] 24) = w4 at hw4
  rw [hw4]
  try rw [hq.out]
  clear hw4
  obtain ⟨A5, c5, hat5, hhp5⟩ := S4.out.at (by have := ends_len a b; omega)
  have SP := Lib.hid (spans_any (endsF a b) w4.heap.size p 0 A5 c5 w4 (cell_of_one hhp5) hat5.2.2.2.2.1 (Nat.le_refl _) hat5.1.2.1 hat5.2.1 hat5.2.2.1)
  clear hat5 hhp5
  refine SP.out.mono ?_
  rintro e w5 ⟨v5, rfl, ho, hb⟩
  have O5 := Lib.hid ho
  have S5 := Lib.hid (S4.out.below hb)
  have Q5 := Lib.hid (Q4.out.below hb)
  have B5 : Hid (Below p w w5) := B4.out.trans (hb.mono (Nat.le_of_lt S4.out.lt))
  obtain ⟨A6, c6, e6, hc6, _, _, hrd6⟩ := own_form ho
  subst e6
  have R6 : Hid ((endsF a b).length / 2 ≤ c6 ∧ Rd w5 w5.heap.size A6 ((endsF a b).length / 2 * 2) (ints (endsF a b))) := ⟨hc6, hrd6⟩
  clear ho hb hc6 hrd6 SP O5 S4 Q4 B4
  obtain ⟨N, hN⟩ : ∃ N, Hid ((endsF a b).length / 2 = N) := ⟨_, rfl⟩
  rw [hN.out] at R6 ⊢
  go_wp2_with fail
  refine (Known.known_any w5).mono ?_
  rintro e w6 ⟨rfl, hb⟩
  have S6 := Lib.hid (S5.out.below hb)
  have Q6 := Lib.hid (Q5.out.below hb)
  have B6 : Hid (Below w5.heap.size w5 w6) := hb
  clear hb S5 Q5
  go_wp2_with fail
  refine (count_any [] q w6 Q6.out (by decide)).mono ?_
  rintro e w7 ⟨rfl, hb⟩
  have S7 := Lib.hid (S6.out.below hb)
  have B7 : Hid (Below w5.heap.size w5 w7) := B6.out.trans (hb.mono B6.out.size)
  clear hb S6 Q6 B6
  rw [show cnt [] = 0 from rfl]
  go_wp2_with fail
  refine (count_any (endsF a b) p w7 S7.out (by have := ends_len a b; omega)).mono ?_
  rintro e w8 ⟨rfl, hb⟩
  have S8 := Lib.hid (S7.out.below hb)
  have B8 : Hid (Below w5.heap.size w5 w8) := B7.out.trans (hb.mono B7.out.size)
  clear hb S7 B7
  rw [ends_cnt]
  go_wp2_with fail
  have hl4 : Hid ((endsF a b).length * 8 ≤ 140737488355328) := by have := ends_len a b; show _ ≤ _; omega
  have m1 : mem (endsF a b) (-1) = false := by rw [ends_mem a b _ a0 a1 b0 b1]; simp; omega
  have m2 : mem (endsF a b) 4611686018427387904 = false := by rw [ends_mem a b _ a0 a1 b0 b1]; simp; omega
  have m3 : mem (endsF a b) b = false := by rw [ends_mem a b _ a0 a1 b0 b1]; simp; omega
  have C1 := has_in (endsF a b) p (-1) w8 S8.out hl4.out
  rw [m1] at C1
  have C1 := Lib.hid C1
  have M2 := Lib.hid m2
  have M3 := Lib.hid m3
  clear m1 m2 m3
  refine C1.out.mono ?_
  rintro e w9 ⟨rfl, hb⟩
  have S9 := Lib.hid (S8.out.below hb)
  have B9 : Hid (Below w5.heap.size w5 w9) := B8.out.trans (hb.mono B8.out.size)
  clear hb S8 B8 C1
  go_wp2_with fail
  have C2 := has_in (endsF a b) p 4611686018427387904 w9 S9.out hl4.out
  rw [M2.out] at C2
  have C2 := Lib.hid C2
  refine C2.out.mono ?_
  rintro e w10 ⟨rfl, hb⟩
  have S10 := Lib.hid (S9.out.below hb)
  have B10 : Hid (Below w5.heap.size w5 w10) := B9.out.trans (hb.mono B9.out.size)
  clear hb S9 B9 C2
  go_wp2_with fail
  have C3 := first_ptr (endsF a b) p (4611686018427387903 - a) w10 S10.out hl4.out
  rw [ends_first a b S10.out.1 a0 a1 b0 b1] at C3
  have C3 := Lib.hid C3
  refine C3.out.mono ?_
  rintro e w11 ⟨rfl, hb⟩
  have S11 := Lib.hid (S10.out.below hb)
  have B11 : Hid (Below w5.heap.size w5 w11) := B10.out.trans (hb.mono B10.out.size)
  clear hb S10 B10 C3
  go_wp2_with fail
  have C4 := has_in (endsF a b) p b w11 S11.out hl4.out
  rw [M3.out] at C4
  have C4 := Lib.hid C4
  have hguard := Try.eqGuardType32
  have hfin : Hid (∀ w12, Below w11.heap.size w11 w12 → Below w.heap.size w w12) := fun w12 h => by
    have h5 := B5.out.size
    have h11 := B11.out.size
    rw [hp.out] at h5 ⊢
    exact (B5.out.trans (B11.out.mono h5)).trans (h.mono (by omega))
  refine C4.out.mono ?_
  rintro e w12 ⟨rfl, hb⟩
  have HF : Hid (Below w.heap.size w w12) := hfin.out w12 hb
  have B12 : Hid (Below w5.heap.size w5 w12) := B11.out.trans (hb.mono B11.out.size)
  clear hb C4 S11 B11
  by_cases hb0 : b = 0
  · have hE : endsF a b = [4611686018427387903 - a, 4611686018427387904] := by unfold endsF; rw [if_pos hb0]
    rw [hE] at R6 hN
    obtain rfl : N = 1 := by have := hN.out; simp at this; omega
    obtain ⟨g, o, hA6, hg, hcs⟩ := R6.out.2.2 (by decide)
    subst hA6
    have k0 : w12.cell? ⟨g, o, none⟩ = some (.int .i64 (4611686018427387903 - a)) := by
      rw [B12.out.cell (p := ⟨g, o, none⟩) hg]; exact hcs 0 _ rfl
    have k1 : w12.cell? ⟨g, o + 1, none⟩ = some (.int .i64 4611686018427387904) := by
      rw [B12.out.cell (p := ⟨g, o + 1, none⟩) hg]; exact hcs 1 _ rfl
    have hc6 : 1 ≤ c6 := R6.out.1
    have heq : ∀ W, (Op.equalIn 10000 32 (.agg #[.int .i64 (4611686018427387903 - a), .int .i64 4611686018427387904]) (.agg #[.int .i64 (4611686018427387903 - a), .int .i64 4611686018427387904])).run Try.prog W = .ok true W := fun W => by
      rw [eq2]; simp
    clear hcs hE
    subst hb0
    go_wp2_with fail
    go_ret
    exact ⟨rfl, HF.out⟩
  · have hE : endsF a b = [0, b, 4611686018427387903 - a, 4611686018427387904] := by unfold endsF; rw [if_neg hb0]
    rw [hE] at R6 hN
    obtain rfl : N = 2 := by have := hN.out; simp at this; omega
    obtain ⟨g, o, hA6, hg, hcs⟩ := R6.out.2.2 (by decide)
    subst hA6
    have k0 : w12.cell? ⟨g, o, none⟩ = some (.int .i64 0) := by
      rw [B12.out.cell (p := ⟨g, o, none⟩) hg]; exact hcs 0 _ rfl
    have k1 : w12.cell? ⟨g, o + 1, none⟩ = some (.int .i64 b) := by
      rw [B12.out.cell (p := ⟨g, o + 1, none⟩) hg]; exact hcs 1 _ rfl
    have k2 : w12.cell? ⟨g, o + 2, none⟩ = some (.int .i64 (4611686018427387903 - a)) := by
      rw [B12.out.cell (p := ⟨g, o + 2, none⟩) hg]; exact hcs 2 _ rfl
    have k3 : w12.cell? ⟨g, o + 2 + 1, none⟩ = some (.int .i64 4611686018427387904) := by
      rw [B12.out.cell (p := ⟨g, o + 2 + 1, none⟩) hg]; exact hcs 3 _ rfl
    have hc6 : 2 ≤ c6 := R6.out.1
    have heq : ∀ W, (Op.equalIn 10000 32 (.agg #[.int .i64 (4611686018427387903 - a), .int .i64 4611686018427387904]) (.agg #[.int .i64 (4611686018427387903 - a), .int .i64 4611686018427387904])).run Try.prog W = .ok true W := fun W => by
      rw [eq2]; simp
    have heq2 : ∀ W, (Op.equalIn 10000 32 (.agg #[.int .i64 0, .int .i64 b]) (.agg #[.int .i64 0, .int .i64 b])).run Try.prog W = .ok true W := fun W => by
      rw [eq2]; simp
    have hbz : (b == 0) = false := by simpa using hb0
    clear hcs hE hb0
    go_wp2_with fail
    go_ret
    exact ⟨rfl, HF.out⟩
end Go.Proofs.Ytbddphoiccbjnab.Ends
