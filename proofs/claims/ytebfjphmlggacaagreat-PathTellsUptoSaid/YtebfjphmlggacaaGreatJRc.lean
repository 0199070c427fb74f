/- The reference's Rtt: Sample, Round, Wait, Late. Conditions: as each theorem lists them. -/
import Derived.Test.YtebfjphmlggacaaGreatJRp
import Derived.Deep.DeepCutAuto
import Derived.Deep.CutBlock
import Derived.Deep.QuietTactic
import Derived.BigQuiet
import Derived.Outline
set_option linter.unusedSimpArgs false
set_option linter.unusedVariables false

namespace Go.Proofs.YtebfjphmlggacaaGreat.Rtt
open Go Go.RowKit

theorem rsat_any (n a b : Int) (w : World) (hab : a ≤ b) :
    Calls Tryz.prog 62 #[.int .i64 n, .int .i64 a, .int .i64 b] w fun e w' => e = .returned (.int .i64 (min (max n a) b)) ∧ w = w' := by
  go_enter Tryz.func62, Tryz.ntmps62
  go_wp2
  all_goals go_ret
  all_goals exact ⟨ret_int (by omega), rfl⟩

theorem rround_any (s : RS) (hs : Good s) (p o : Nat) (T : TypeId) (cur : Array Value) (w : World) (h : RtIn w p o T cur s) :
    Calls Tryz.prog 61 #[.pointer (some ⟨p, o, none⟩)] w fun e w' => e = .returned (.int .i64 (roundF s)) ∧ w' = w := by
  obtain ⟨hc0, _, _, hc3, _⟩ := h.cells
  have h0 := hs.lo
  have h1 := hs.hi
  have HR : Hid (roundF s = if s.so = true then max 1 (s.sm / 8) else 4) := rfl
  obtain ⟨r, hr⟩ : ∃ r, Hid (roundF s = r) := ⟨_, rfl⟩
  rw [hr.out] at HR ⊢
  obtain ⟨sm, va, bk, so⟩ := s
  dsimp only at hc0 hc3 h0 h1 HR
  cases so
  all_goals
    go_enter Tryz.func61, Tryz.ntmps61
    go_wp2
    all_goals go_ret
    all_goals exact ⟨ret_int (by have := HR.out; simp at this; omega), rfl⟩

theorem rlate_any (s : RS) (hs : Good s) (p o : Nat) (T : TypeId) (cur : Array Value) (w : World) (h : RtIn w p o T cur s) :
    Calls Tryz.prog 44 #[.pointer (some ⟨p, o, none⟩)] w fun e w' => e = .returned (.int .i64 (lateF s)) ∧ w' = w := by
  have H := Lib.hid (rround_any s hs p o T cur w h)
  have hr := hs.round
  have HL : Hid (lateF s = roundF s + roundF s / 8 + 1) := rfl
  obtain ⟨r, hr'⟩ : ∃ r, Hid (roundF s = r) := ⟨_, rfl⟩
  obtain ⟨l, hl⟩ : ∃ r, Hid (lateF s = r) := ⟨_, rfl⟩
  rw [hr'.out] at H HL hr
  rw [hl.out] at HL ⊢
  clear h
  go_enter Tryz.func44, Tryz.ntmps44
  go_wp2_with (go_at_call 61; refine H.out.mono ?_; rintro e w' ⟨rfl, rfl⟩)
  go_ret
  exact ⟨ret_int (by have := HL.out; omega), rfl⟩

set_option maxRecDepth 100000 in
set_option maxHeartbeats 1000000 in
theorem rsample_any (s : RS) (hs : Good s) (x : Int) (p o : Nat) (T : TypeId) (cur : Array Value) (w : World) (h : RtIn w p o T cur s) :
    Calls Tryz.prog 37 #[.pointer (some ⟨p, o, none⟩), .int .i64 x] w fun e w' => e = .returned (.tuple #[]) ∧ RtTo w w' p o T cur (samp s x) := by
  obtain ⟨hc0, hc1, hc2, hc3, hf⟩ := h.cells
  have hx := sat_in x
  have HSA : Hid (∀ W, Calls Tryz.prog 62 #[.int .i64 x, .int .i64 1, .int .i64 1000] W fun e w' => e = .returned (.int .i64 (sat x)) ∧ W = w') := fun W => rsat_any x 1 1000 W (by decide)
  have H := Lib.hid h
  have HS : Hid (samp s x = if s.so = true then ⟨s.sm - s.sm / 8 + sat x, s.va - s.va / 4 + far (sat x) (s.sm / 8), 0, true⟩ else ⟨8 * sat x, 2 * sat x, 0, true⟩) := rfl
  obtain ⟨z, hz⟩ : ∃ z, Hid (sat x = z) := ⟨_, rfl⟩
  rw [hz.out] at HSA hx HS
  obtain ⟨hx1, hx2⟩ := hx
  obtain ⟨s', hs'⟩ : ∃ z, Hid (samp s x = z) := ⟨_, rfl⟩
  rw [hs'.out] at HS ⊢
  have hf0 := hf o
  have hf1 := hf (o + 1)
  have hf2 := hf (o + 2)
  have hf3 := hf (o + 3)
  clear h
  obtain ⟨sm, va, bk, so⟩ := s
  obtain ⟨g1, g2, g3, g4, _⟩ := hs
  dsimp only at g1 g2 g3 g4 hc0 hc1 hc2 hc3 HS
  cases so
  · clear hf
    go_enter Tryz.func37, Tryz.ntmps37
    go_wp2_with (go_at_call 62; refine (HSA.out _).mono ?_; rintro e w' ⟨rfl, rfl⟩)
    go_end0
    exact ⟨rfl, ((((H.out.here.sm _).va _).so true).bk 0).state (by rw [HS.out]; rfl)⟩
  · have c : sm / 8 - z < 0 ∨ 0 ≤ sm / 8 - z := by omega
    have HD : Hid (far z (sm / 8) = max (sm / 8 - z) (-(sm / 8 - z))) := by show _ = _; unfold far; omega
    clear hf0 hf1 hf2 hf3
    rcases c with c | c
    all_goals
      go_enter Tryz.func37, Tryz.ntmps37
      go_wp2_with (go_at_call 62; refine (HSA.out _).mono ?_; rintro e w' ⟨rfl, rfl⟩)
      refine still_tail 13 (by kernel_rfl) (by kernel_rfl) ?_
      intro wz hwz
      have hz1 : wz.cell? ⟨p, o + 1, none⟩ = some (.int .i64 va) := by rw [hwz]; exact hc1
      have hzf : wz.frozen? ⟨p, o + 1, none⟩ = false := by rw [hwz]; exact hf (o + 1)
      have HZ : Hid (RtTo w wz p o T cur ⟨sm, va, bk, true⟩) := by rw [hwz]; exact H.out.here.drew
      clear hwz hc0 hc1 hc2 hc3 hf H
      simp only [List.take_succ_cons, List.take_zero, List.drop_succ_cons, List.drop_zero]
      iterate 13 still_step
      refine wpStill_nil ?_
      go_wp2_with fail
      refine still_tail 13 (by kernel_rfl) (by kernel_rfl) ?_
      intro wy hwy
      have HY : Hid (RtTo w wy p o T cur ⟨sm, va - va / 4 + far z (sm / 8), bk, true⟩) := by
        rw [hwy]
        exact ((HZ.out.va _).state (by have := HD.out; simp; omega)).drew
      clear hwy HZ hz1 hzf
      obtain ⟨c2, hin, _⟩ := HY.out
      obtain ⟨hy0, _, hy2, hy3, hf⟩ := hin.cells
      have hyf := hf o
      have hf2 := hf (o + 2)
      have hf3 := hf (o + 3)
      clear hf hin
      simp only [List.take_succ_cons, List.take_zero, List.drop_succ_cons, List.drop_zero]
      iterate 13 still_step
      refine wpStill_nil ?_
      go_wp2_with fail
      go_end0
      exact ⟨rfl, ((((HY.out.sm _).so true).bk 0).state (by rw [HS.out]; rfl))⟩

set_option maxRecDepth 100000 in
set_option maxHeartbeats 1000000 in
theorem rwait_any (s : RS) (hs : Good s) (p o : Nat) (T : TypeId) (cur : Array Value) (w : World) (h : RtIn w p o T cur s) :
    Calls Tryz.prog 26 #[.pointer (some ⟨p, o, none⟩)] w fun e w' => e = .returned (.int .i64 (waitF s)) ∧ ∃ q, w' = w.drewN q := by
  obtain ⟨_, hc1, hc2, hc3, _⟩ := h.cells
  have HR := Lib.hid (fun W h => rround_any s hs p o T cur W h)
  have h1 := hs.round
  have h2 := hs.spread
  have HW : Hid (waitF s = min ((roundF s + spreadF s) * (2 ^ twos s.bk : Nat)) 32) := rfl
  have HP : Hid (spreadF s = if s.so = true then max 1 s.va else 4) := rfl
  have HP4 : Hid (roundF s = if s.so = true then max 1 (s.sm / 8) else 4) := rfl
  obtain ⟨r, hr⟩ : ∃ z, Hid (roundF s = z) := ⟨_, rfl⟩
  obtain ⟨d, hd⟩ : ∃ z, Hid (spreadF s = z) := ⟨_, rfl⟩
  obtain ⟨l, hl⟩ : ∃ z, Hid (waitF s = z) := ⟨_, rfl⟩
  rw [hr.out] at HR HW h1 HP4
  rw [hd.out] at HP HW h2
  rw [hl.out] at HW ⊢
  obtain ⟨b, hb⟩ : ∃ z, Hid (s.bk = z) := ⟨_, rfl⟩
  rw [hb.out] at hc2 HW
  have HB : Hid (∀ W, Calls Tryz.prog 62 #[.int .i64 b, .int .i64 0, .int .i64 10] W fun e w' => e = .returned (.int .i64 ((twos b : Nat) : Int)) ∧ W = w') := fun W => by
    have := rsat_any b 0 10 W (by decide)
    have e : ((twos b : Nat) : Int) = min (max b 0) 10 := by unfold twos; omega
    rwa [e]
  have hk := twos_le b
  obtain ⟨k, hk'⟩ : ∃ z, Hid (twos b = z) := ⟨_, rfl⟩
  rw [hk'.out] at HB HW hk
  have H := Lib.hid h
  clear h
  obtain ⟨sm, va, bk, so⟩ := s
  dsimp only at hc1 hc2 hc3 HP HP4
  have H2 := Lib.hid (show 0 ≤ va ∧ va ≤ 4003 from ⟨hs.v0, hs.v1⟩)
  have hm : (r + d) * ((2 ^ k : Nat) : Int) ≤ 5003 * 1024 := Int.mul_le_mul (by omega) (by have : 2 ^ k ≤ 2 ^ 10 := Nat.pow_le_pow_right (by decide) hk; omega) (Int.natCast_nonneg _) (by decide)
  have HM := Lib.hid hm
  clear hm
  go_enter Tryz.func26, Tryz.ntmps26
  go_upto_if 8 with (fail)
  go_cut [3] (fun v wx => v = .int .i64 (r + d) ∧ ∃ q, wx = w.drewN q)
  case first =>
    cases so
    · have e : r + d = 8 := by have := HP.out; have := HP4.out; simp at *; omega
      have E := Lib.hid e
      clear e
      go_wp2_with fail
      go_meet
      case rel => exact ⟨by rw [E.out], 0, rfl⟩
    · go_wp2_with fail
      have e : d = max 1 va := by have := HP.out; simpa using this
      have E1 : Hid (va ≤ d ∧ 1 ≤ d ∧ (d ≤ va ∨ d ≤ 1)) := by show _ ∧ _; omega
      have EW : Hid (wrap64 (r + va) = r + va ∧ wrap64 (r + 1) = r + 1) := by
        have := H2.out
        exact ⟨IntWalk.wrap64_in _ (by omega), IntWalk.wrap64_in _ (by omega)⟩
      clear e
      go_quiet ((go_at_call 61; exact Calls.quiet_of_same (HR.out _ ⟨H.out.1, H.out.2⟩)))
      have hva0 := H2.out.1
      have hva1 := H2.out.2
      go_wp2_with fail
      all_goals go_meet
      all_goals exact ⟨by have := E1.out; have := EW.out; simp; omega, nq, rfl⟩
  case rest =>
    obtain ⟨rfl, q, rfl⟩ := hcut
    go_wp2_with (go_at_call 62; refine (HB.out _).mono ?_; rintro e w' ⟨rfl, rfl⟩)
    have hm0 : 0 ≤ (r + d) * ((2 ^ k : Nat) : Int) := Int.mul_nonneg (by omega) (Int.natCast_nonneg _)
    have HM0 := Lib.hid hm0
    clear hm0
    go_loopw [3, 4] (fun v i wx => ∃ (j : Nat) (x m : Int), i = .int .i64 x ∧ 0 ≤ x ∧ x ≤ 10 ∧ Hid (x = (j : Int)) ∧ v = .int .i64 m ∧ Hid (1 ≤ m ∧ m * ((2 ^ j : Nat) : Int) = (r + d) * ((2 ^ k : Nat) : Int)) ∧ wx = w.drewN q) (fun _ i _ => (intOf i).toNat)
    case atStart => exact ⟨k, k, r + d, rfl, by omega, by omega, rfl, rfl, ⟨by omega, rfl⟩, rfl⟩
    case round =>
      obtain ⟨j, x, m, rfl, hx0, hx1, HX, rfl, HK, rfl⟩ := hrel
      have hm1 : m ≤ 5003 * 1024 := by
        have h := HK.out
        have h2 : 1 ≤ 2 ^ j := Nat.one_le_two_pow
        have : m * 1 ≤ m * ((2 ^ j : Nat) : Int) := Int.mul_le_mul_of_nonneg_left (by omega) (by omega)
        have := HM.out
        omega
      have hm0 := HK.out.1
      by_cases hj0 : x ≤ 0
      · obtain rfl : x = 0 := by omega
        have E : Hid (min m 32 = l) := by
          have h := HK.out.2
          have := HW.out
          obtain rfl : j = 0 := by have := HX.out; omega
          show _ = _
          rw [this, ← h]; simp
        go_wp2_with fail
        all_goals go_ret
        all_goals exact ⟨ret_int (by have := E.out; omega), q, rfl⟩
      · have hji : (0 : Int) < x := by omega
        go_wp2_with fail
        refine ⟨⟨j - 1, x - 1, 2 * m, rfl, by omega, by omega, by have := HX.out; show _ = _; omega, rfl, ⟨by omega, ?_⟩, trivial⟩, by simp [intOf]; omega⟩
        have h := HK.out.2
        obtain ⟨j', rfl⟩ : ∃ j', j = j' + 1 := ⟨j - 1, by have := HX.out; omega⟩
        rw [← h, Nat.pow_succ, Int.natCast_mul, Int.mul_comm 2 m, Int.mul_assoc, Nat.add_sub_cancel]
        congr 1
        exact Int.mul_comm _ _
end Go.Proofs.YtebfjphmlggacaaGreat.Rtt
