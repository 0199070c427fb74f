/- RttBounds: the walk. Conditions: as the theorem lists them. -/
import Derived.Test.YtkcdemdgnleckaaRd
import Derived.Test.YtkcdemdgnleckaaOp
import Derived.Test.YtkcdemdgnleckaaRtKn
import Derived.Outline
import Derived.Deep.DeepCutAuto
import Derived.Deep.CutBlock
set_option linter.unusedSimpArgs false
set_option linter.unusedVariables false
namespace Go.Proofs.Ytkcdemdgnleckaa.Rtt
open Go Go.RowKit

set_option maxRecDepth 100000 in
set_option maxHeartbeats 4000000 in
theorem bounds_walk (A : Option Addr) (c : Nat) (l : List Int) (bk : Int) (w : World) (hl : IsInts w A c l) (_ : -9223372036854775808 ≤ bk) (_ : bk ≤ 9223372036854775807) :
    Calls Try.prog 7 #[.slice A l.length c, .int .i64 bk] w fun e w' => e = .returned (.bool true) ∧ Below w.heap.size w w' := by
  have HL := Lib.hid hl
  obtain ⟨n, hn⟩ : ∃ n, Hid (l.length = n) := ⟨_, rfl⟩
  have hnc : n ≤ c := by rw [← hn.out]; exact hl.cap
  have hnm : (n : Int) ≤ 17592186044416 := by have := hl.reach; rw [hn.out] at this; omega
  rw [hn.out]
  clear hl
  go_enter Try.func7, Try.ntmps7
  go_wp2_with fail
  obtain ⟨p, hp⟩ : ∃ g, Hid (w.heap.size = g) := ⟨_, rfl⟩
  have HST : Hid (One w (w.alloc (.cells #[.int .i64 0, .int .i64 0, .int .i64 0, .bool false] 23)) p 23 r0) := One.new_ (Below.refl _ _) _ _ hp.out.symm
  rw [hp.out]
  go_loopw [11] (fun i wr => ∃ (k : Nat) (s : RS), k ≤ n ∧ i = .int .i64 k ∧ Hid (One w wr p 23 s)) (fun i _ => n - (intOf i).toNat)
  case atStart => exact ⟨0, r0, Nat.zero_le _, rfl, HST⟩
  case round =>
    clear HST
    obtain ⟨k, s, hk, rfl, HK⟩ := hrel
    by_cases hlt : k < n
    · have hlti : (k : Int) < (n : Int) := by omega
      have hki : (k : Int) ≤ 17592186044416 := by omega
      obtain ⟨_, b, off, hA, hbn, hcs⟩ := HL.out.rd.int (by rw [hn.out]; omega)
      subst hA
      obtain ⟨x, hx⟩ : ∃ x, Hid (l.getD k 0 = x) := ⟨_, rfl⟩
      have hcx : wr.cell? ⟨b, off + k, none⟩ = some (.int .i64 x) := by
        rw [HK.out.below.cell (p := ⟨b, off + k, none⟩) hbn, hcs k (by rw [hn.out]; omega), hx.out]
      have hxb := HL.out.lt x (by rw [← hx.out]; simp only [List.getD]; rw [List.getElem?_eq_getElem (by rw [hn.out]; omega)]; exact List.getElem_mem _)
      have HNU := Lib.hid (fun W => num_any x W hxb.1 hxb.2)
      clear hcs hxb
      obtain ⟨y, hy⟩ : ∃ y, Hid (numF x = y) := ⟨_, rfl⟩
      rw [hy.out] at HNU
      have HSA := Lib.hid (sample_one _ HK.out y)
      obtain ⟨s1, hs1⟩ : ∃ z, Hid (samp s y = z) := ⟨_, rfl⟩
      rw [hs1.out] at HSA
      have hso := samp_so s y
      rw [hs1.out] at hso
      have HSO := Lib.hid hso
      clear hso
      go_wp2_with fail
      refine (HNU.out _).mono ?_
      rintro e w' ⟨rfl, rfl⟩
      go_wp2_with fail
      refine HSA.out.mono ?_
      rintro e w1 ⟨rfl, h1, _⟩
      have hf2 := h1.cells.2.2.2.2 2
      have hc2 := h1.cells.2.2.1
      have H1 := Lib.hid h1
      clear h1
      go_upto_region 7 with fail
      have h2 := (H1.out.back bk).1
      generalize w1.setCell ⟨p, 2, none⟩ (.int .i64 bk) = w2 at h2 ⊢
      clear hf2 hc2
      have HRO := Lib.hid (round_one _ h2)
      have HLA := Lib.hid (late_one _ h2)
      have HWA := Lib.hid (wait_one _ h2)
      have hr := h2.good.round
      have hw := wait_bounds h2.good
      have hll : roundF (back s1 bk) < lateF (back s1 bk) := by unfold lateF; omega
      have hc3 : w2.cell? ⟨p, 3, none⟩ = some (.bool true) := by have := h2.cells.2.2.2.1; rw [this]; show some (Value.bool s1.so) = _; rw [HSO.out]
      have H2 := Lib.hid h2
      clear h2
      obtain ⟨r, hr'⟩ : ∃ z, Hid (roundF (back s1 bk) = z) := ⟨_, rfl⟩
      obtain ⟨t, ht'⟩ : ∃ z, Hid (waitF (back s1 bk) = z) := ⟨_, rfl⟩
      obtain ⟨d, hd'⟩ : ∃ z, Hid (lateF (back s1 bk) = z) := ⟨_, rfl⟩
      rw [hr'.out] at HRO hr hll
      rw [ht'.out] at HWA hw
      rw [hd'.out] at HLA hll
      obtain ⟨r1, r2⟩ := hr
      obtain ⟨t1, t2⟩ := hw
      have d1 : decide (r < 1) = false := decide_eq_false (by omega)
      have d2 : decide (1000 < r) = false := decide_eq_false (by omega)
      have d3 : decide (t < 2) = false := decide_eq_false (by omega)
      have d4 : decide (32 < t) = false := decide_eq_false (by omega)
      have d5 : decide (d ≤ r) = false := decide_eq_false (by omega)
      go_wp2_with (first | (go_at_call 11; refine HRO.out.mono ?_; rintro e w' ⟨rfl, rfl⟩) | (go_at_call 8; refine HWA.out.mono ?_; rintro e w' ⟨rfl, rfl⟩) | (go_at_call 12; refine HLA.out.mono ?_; rintro e w' ⟨rfl, rfl⟩))
      go_roundw
      case rel => exact ⟨k + 1, back s1 bk, by omega, by go_num, H2⟩
      case measure => simp [intOf]; omega
    · obtain rfl : k = n := by omega
      go_wp2_with fail
      refine (RtKn.known_any _).mono ?_
      rintro e w2 ⟨rfl, hb⟩
      have HB := HK.out.below.trans (hb.mono HK.out.below.size)
      go_wp2_with fail
      go_ret
      exact ⟨rfl, HB⟩
end Go.Proofs.Ytkcdemdgnleckaa.Rtt
