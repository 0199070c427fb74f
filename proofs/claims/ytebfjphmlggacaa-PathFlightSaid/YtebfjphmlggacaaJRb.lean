/- Rtt: follow, Sample, Wait, Late. Conditions: as each theorem lists them. -/
import Derived.Test.YtebfjphmlggacaaJRa
import Derived.StillTailTactics
set_option linter.unusedSimpArgs false
set_option linter.unusedVariables false

namespace Go.Proofs.Ytebfjphmlggacaa.Rtt
open Go Go.RowKit

theorem still_tail {P : Program} {id : Nat} {Q : Exit → Act → World → Prop} {a : Act} {w : World} {l : List Oper} (n : Nat) (hm : P.follows .mixedOrders = true) (hB : Region.lexTailB .any l.toArray n = true)
    (h : ∀ w' : World, w' = w.drew → wpStill P l.toArray w' (fun a' => wpList P l.toArray Q (l.drop n) a' w') (l.take n) a) : (Code.region id l.toArray true).wp P Q a w :=
  wp_region_still_tail n hm hB (h _ rfl)

theorem quo8 (a : Int) (h0 : 0 ≤ a) (h1 : a ≤ 8007) : IntKind.i64.wrap (a.tdiv 8) = a / 8 := by
  rw [Int.tdiv_eq_ediv_of_nonneg h0]; exact IntWalk.i64_in _ (by omega)
theorem quo4 (a : Int) (h0 : 0 ≤ a) (h1 : a ≤ 8007) : IntKind.i64.wrap (a.tdiv 4) = a / 4 := by
  rw [Int.tdiv_eq_ediv_of_nonneg h0]; exact IntWalk.i64_in _ (by omega)

theorem late_any (s : RS) (hs : Good s) (p o : Nat) (T : TypeId) (cur : Array Value) (w : World) (h : RtIn w p o T cur s) :
    Calls Try.prog 30 #[.pointer (some ⟨p, o, none⟩)] w fun e w' => e = .returned (.int .i64 (lateF s)) ∧ w' = w := by
  have H := Lib.hid (round_any s hs p o T cur w h)
  have hr := hs.round
  have HL : Hid (lateF s = roundF s + roundF s / 8 + 1) := rfl
  obtain ⟨r, hr'⟩ : ∃ r, Hid (roundF s = r) := ⟨_, rfl⟩
  obtain ⟨l, hl⟩ : ∃ r, Hid (lateF s = r) := ⟨_, rfl⟩
  rw [hr'.out] at H HL hr
  rw [hl.out] at HL ⊢
  clear h
  go_enter Try.func30, Try.ntmps30
  go_wp2_with (go_at_call 10; refine H.out.mono ?_; rintro e w' ⟨rfl, rfl⟩)
  go_ret
  exact ⟨ret_int (by have := HL.out; omega), rfl⟩

set_option maxRecDepth 100000 in
set_option maxHeartbeats 1000000 in
theorem follow_any (s : RS) (hs : Good s) (x : Int) (h1 : 1 ≤ x) (h2 : x ≤ 1000) (p o : Nat) (T : TypeId) (cur : Array Value) (w : World) (h : RtIn w p o T cur s) :
    Calls Try.prog 48 #[.pointer (some ⟨p, o, none⟩), .int .i64 x] w fun e w' => e = .returned (.tuple #[]) ∧ RtTo w w' p o T cur ⟨s.sm - s.sm / 8 + x, s.va - s.va / 4 + far x (s.sm / 8), s.bk, s.so⟩ := by
  obtain ⟨hc0, hc1, hc2, hc3, hf⟩ := h.cells
  have H := Lib.hid h
  obtain ⟨sm, va, bk, so⟩ := s
  obtain ⟨g1, g2, g3, g4, _⟩ := hs
  dsimp only at g1 g2 g3 g4 hc0 hc1 ⊢
  have HAW : Hid (∀ W, Calls Try.prog 65 #[.int .i64 x, .int .i64 (IntKind.i64.wrap (sm.tdiv 8))] W fun e w' => e = .returned (.int .i64 (far x (sm / 8))) ∧ w' = W) := fun W => by
    rw [quo8 sm g1 g2]
    exact (away_any x (sm / 8) W (by omega) (by omega) (by omega) (by omega)).mono fun e w' h => ⟨h.1, h.2.symm⟩
  have hfar : 0 ≤ far x (sm / 8) ∧ far x (sm / 8) ≤ 1000 := by unfold far; omega
  obtain ⟨d, hd⟩ : ∃ d, Hid (far x (sm / 8) = d) := ⟨_, rfl⟩
  rw [hd.out] at HAW hfar ⊢
  clear h hc2 hc3
  go_enter Try.func48, Try.ntmps48
  go_wp2_with fail
  refine still_tail 18 (by kernel_rfl) (by kernel_rfl) ?_
  intro wz hwz
  have hz0 : wz.cell? ⟨p, o, none⟩ = some (.int .i64 sm) := by rw [hwz]; exact hc0
  have hz1 : wz.cell? ⟨p, o + 1, none⟩ = some (.int .i64 va) := by rw [hwz]; exact hc1
  have hzf : wz.frozen? ⟨p, o + 1, none⟩ = false := by rw [hwz]; exact hf (o + 1)
  have HZ : Hid (RtTo w wz p o T cur ⟨sm, va, bk, so⟩) := by rw [hwz]; exact H.out.here.drew
  clear hwz hc0 hc1 hf H
  simp only [List.take_succ_cons, List.take_zero, List.drop_succ_cons, List.drop_zero]
  iterate 10 still_step
  still_call (HAW.out _)
  iterate 7 still_step
  refine wpStill_nil ?_
  clear HAW
  go_wp2_with fail
  have HY : Hid (RtTo w (wz.setCell ⟨p, o + 1, none⟩ (.int .i64 (va + (d - va / 4)))) p o T cur ⟨sm, va - va / 4 + d, bk, so⟩) := (HZ.out.va _).state (by simp; omega)
  clear hz0 hz1 hzf HZ
  refine still_tail 12 (by kernel_rfl) (by kernel_rfl) ?_
  intro wy hwy
  have HY2 : Hid (RtTo w wy p o T cur ⟨sm, va - va / 4 + d, bk, so⟩) := by rw [hwy]; exact HY.out.drew
  clear hwy HY
  obtain ⟨c2, hin, _⟩ := HY2.out
  obtain ⟨hy0, _, _, _, hf⟩ := hin.cells
  have hyf := hf o
  clear hf hin
  simp only [List.take_succ_cons, List.take_zero, List.drop_succ_cons, List.drop_zero]
  iterate 12 still_step
  refine wpStill_nil ?_
  go_wp2_with fail
  go_end0
  refine ⟨rfl, (HY2.out.sm _).state (by simp; omega)⟩

set_option maxRecDepth 100000 in
set_option maxHeartbeats 1000000 in
theorem sample_any (s : RS) (hs : Good s) (x : Int) (p o : Nat) (T : TypeId) (cur : Array Value) (w : World) (h : RtIn w p o T cur s) :
    Calls Try.prog 26 #[.pointer (some ⟨p, o, none⟩), .int .i64 x] w fun e w' => e = .returned (.tuple #[]) ∧ RtTo w w' p o T cur (samp s x) := by
  obtain ⟨hc0, hc1, hc2, hc3, hf⟩ := h.cells
  have hx := sat_in x
  have HSA : Hid (∀ W, Calls Try.prog 47 #[.int .i64 x, .int .i64 1, .int .i64 1000] W fun e w' => e = .returned (.int .i64 (sat x)) ∧ W = w') := fun W => sat_any x 1 1000 W
  have H := Lib.hid h
  have HF := Lib.hid (fun x h1 h2 => follow_any s hs x h1 h2 p o T cur w h)
  have HS : Hid (samp s x = if s.so = true then ⟨s.sm - s.sm / 8 + sat x, s.va - s.va / 4 + far (sat x) (s.sm / 8), 0, true⟩ else ⟨8 * sat x, 2 * sat x, 0, true⟩) := rfl
  obtain ⟨z, hz⟩ : ∃ z, Hid (sat x = z) := ⟨_, rfl⟩
  rw [hz.out] at HSA hx HS
  obtain ⟨hx1, hx2⟩ := hx
  have HF2 := Lib.hid (HF.out z hx1 hx2)
  obtain ⟨s', hs'⟩ : ∃ z, Hid (samp s x = z) := ⟨_, rfl⟩
  rw [hs'.out] at HS ⊢
  have hf0 := hf o
  have hf1 := hf (o + 1)
  have hf2 := hf (o + 2)
  have hf3 := hf (o + 3)
  clear h hf HF
  obtain ⟨so, hso⟩ : ∃ z, Hid (s.so = z) := ⟨_, rfl⟩
  rw [hso.out] at hc3 HS
  cases so
  · clear HF2
    go_enter Try.func26, Try.ntmps26
    go_wp2_with (go_at_call 47; refine (HSA.out _).mono ?_; rintro e w' ⟨rfl, rfl⟩)
    go_end0
    exact ⟨rfl, ((((H.out.here.sm _).va _).so true).bk 0).state (by rw [HS.out]; rfl)⟩
  · clear hc0 hc1 hc2 hf0 hf1 hf2 hf3
    go_enter Try.func26, Try.ntmps26
    go_wp2_with fail
    refine (HSA.out _).mono ?_
    rintro e w' ⟨rfl, rfl⟩
    go_wp2_with fail
    refine HF2.out.mono ?_
    rintro e w1 ⟨rfl, h1⟩
    have HT := Lib.hid h1
    obtain ⟨c2, hin, _⟩ := h1
    obtain ⟨_, _, _, _, hf⟩ := hin.cells
    have hf2 := hf (o + 2)
    have hf3 := hf (o + 3)
    obtain ⟨_, _, k2, k3, _⟩ := hin.cells
    clear hf hin HF2 hc3
    go_wp2_with fail
    go_end0
    exact ⟨rfl, ((HT.out.so true).bk 0).state (by rw [HS.out]; rfl)⟩

theorem shl_two (k : Nat) (hk : k ≤ 10) (a : Int) (h0 : 0 ≤ a) (h1 : a ≤ 64) : wrap64 (a * 2 ^ k) = a * ((2 ^ k : Nat) : Int) := by
  have h2 : 1 ≤ 2 ^ k ∧ 2 ^ k ≤ 1024 := ⟨Nat.one_le_two_pow, Nat.pow_le_pow_right (by decide) hk⟩
  have e : ((2 : Int) ^ k) = ((2 ^ k : Nat) : Int) := by simp
  rw [e]
  generalize 2 ^ k = m at *
  have : a * (m : Int) ≤ 64 * 1024 := Int.mul_le_mul (by omega) (by omega) (by omega) (by omega)
  have : 0 ≤ a * (m : Int) := Int.mul_nonneg h0 (by omega)
  exact IntWalk.wrap64_in _ (by omega)

set_option maxRecDepth 100000 in
set_option maxHeartbeats 1000000 in
theorem wait_any (s : RS) (hs : Good s) (p o : Nat) (T : TypeId) (cur : Array Value) (w : World) (h : RtIn w p o T cur s) :
    Calls Try.prog 35 #[.pointer (some ⟨p, o, none⟩)] w fun e w' => e = .returned (.int .i64 (waitF s)) ∧ w' = w := by
  obtain ⟨_, _, hc2, _, _⟩ := h.cells
  have HR := Lib.hid (round_any s hs p o T cur w h)
  have HP := Lib.hid (spread_any s hs p o T cur w h)
  have h1 := hs.round
  have h2 := hs.spread
  have HW := Lib.hid (wait_cut hs)
  obtain ⟨r, hr⟩ : ∃ z, Hid (roundF s = z) := ⟨_, rfl⟩
  obtain ⟨d, hd⟩ : ∃ z, Hid (spreadF s = z) := ⟨_, rfl⟩
  obtain ⟨l, hl⟩ : ∃ z, Hid (waitF s = z) := ⟨_, rfl⟩
  rw [hr.out] at HR HW h1
  rw [hd.out] at HP HW h2
  rw [hl.out] at HW ⊢
  obtain ⟨b, hb⟩ : ∃ z, Hid (s.bk = z) := ⟨_, rfl⟩
  rw [hb.out] at hc2 HW
  have HB : Hid (∀ W, Calls Try.prog 47 #[.int .i64 b, .int .i64 0, .int .i64 10] W fun e w' => e = .returned (.int .i64 ((twos b : Nat) : Int)) ∧ W = w') := fun W => by
    have := sat_any b 0 10 W
    have e : ((twos b : Nat) : Int) = min (max b 0) 10 := by unfold twos; omega
    rwa [e]
  have hk := twos_le b
  obtain ⟨k, hk'⟩ : ∃ z, Hid (twos b = z) := ⟨_, rfl⟩
  rw [hk'.out] at HB HW hk
  clear h
  have HV := Lib.hid (shl_two k hk)
  have c1 : r ≤ 32 ∨ 32 < r := by omega
  have c2 : d ≤ 32 ∨ 32 < d := by omega
  rcases c1 with c1 | c1 <;> rcases c2 with c2 | c2
  all_goals
    go_enter Try.func35, Try.ntmps35
    go_wp2_with (first | (go_at_call 10; refine HR.out.mono ?_; rintro e w' ⟨rfl, rfl⟩) | (go_at_call 55; refine HP.out.mono ?_; rintro e w' ⟨rfl, rfl⟩) | (go_at_call 47; refine (HB.out _).mono ?_; rintro e w' ⟨rfl, rfl⟩))
    all_goals go_ret
    all_goals
      refine ⟨ret_int ?_, rfl⟩
      have e := HV.out (min r 32 + min d 32) (by omega) (by omega)
      rw [HW.out.symm]
      first
      | (rw [Int.min_eq_left c1, Int.min_eq_left c2] at e ⊢; omega)
      | (rw [Int.min_eq_left c1, Int.min_eq_right (show (32 : Int) ≤ d by omega)] at e ⊢; omega)
      | (rw [Int.min_eq_right (show (32 : Int) ≤ r by omega), Int.min_eq_left c2] at e ⊢; omega)
      | (rw [Int.min_eq_right (show (32 : Int) ≤ r by omega), Int.min_eq_right (show (32 : Int) ≤ d by omega), show (32 : Int) + 32 = 64 from rfl] at e ⊢; omega)
end Go.Proofs.Ytebfjphmlggacaa.Rtt
