/- RttTells: the walk. Conditions: as the theorem lists them. -/
import Derived.Test.YtkcdemdgnleckaaRd
import Derived.Test.YtkcdemdgnleckaaOp
import Derived.Test.YtkcdemdgnleckaaRtKn
import Derived.Outline
import Derived.Deep.DeepCutAuto
import Derived.Deep.CutBlock
set_option linter.unusedSimpArgs false
set_option linter.unusedVariables false
namespace Go.Proofs.Ytkcdemdgnleckaa.Rtt
open Go Go.RowKit

/-- The program's and the reference's. -/
def Two (w wr : World) (p q : Nat) (s s' : RS) : Prop := One w wr p 23 s ∧ One w wr q 28 s' ∧ p ≠ q

set_option maxRecDepth 100000 in
set_option maxHeartbeats 8000000 in
theorem tells_walk (A : Option Addr) (c : Nat) (l : List Int) (bk : Int) (w : World) (hl : IsInts w A c l) (_ : -9223372036854775808 ≤ bk) (_ : bk ≤ 9223372036854775807) :
    Calls Try.prog 4 #[.slice A l.length c, .int .i64 bk] w fun e w' => e = .returned (.bool true) ∧ Below w.heap.size w w' := by
  have HL := Lib.hid hl
  obtain ⟨n, hn⟩ : ∃ n, Hid (l.length = n) := ⟨_, rfl⟩
  have hnc : n ≤ c := by rw [← hn.out]; exact hl.cap
  have hnm : (n : Int) ≤ 17592186044416 := by have := hl.reach; rw [hn.out] at this; omega
  rw [hn.out]
  clear hl
  go_enter Try.func4, Try.ntmps4
  go_wp2_with fail
  obtain ⟨p, hp⟩ : ∃ g, Hid (w.heap.size = g) := ⟨_, rfl⟩
  have h1 : One w (w.alloc (.cells #[.int .i64 0, .int .i64 0, .int .i64 0, .bool false] 23)) p 23 r0 := One.new_ (Below.refl _ _) _ _ hp.out.symm
  have h2 : One w ((w.alloc (.cells #[.int .i64 0, .int .i64 0, .int .i64 0, .bool false] 23)).alloc (.cells #[.int .i64 0, .int .i64 0, .int .i64 0, .bool false] 28)) (p + 1) 28 r0 := One.new_ h1.below _ _ (by simp; exact hp.out.symm)
  have HST : Hid (Two w ((w.alloc (.cells #[.int .i64 0, .int .i64 0, .int .i64 0, .bool false] 23)).alloc (.cells #[.int .i64 0, .int .i64 0, .int .i64 0, .bool false] 28)) p (p + 1) r0 r0) := ⟨h1.goes ((Below.refl _ _).alloc (Nat.le_refl _) _), h2, by omega⟩
  clear h1 h2
  rw [hp.out]
  go_loopw [14] (fun i wr => ∃ (k : Nat) (s : RS), k ≤ n ∧ i = .int .i64 k ∧ Hid (Two w wr p (p + 1) s s)) (fun i _ => n - (intOf i).toNat)
  case atStart => exact ⟨0, r0, Nat.zero_le _, rfl, HST⟩
  case round =>
    clear HST
    obtain ⟨k, s, hk, rfl, HK⟩ := hrel
    by_cases hlt : k < n
    · have hlti : (k : Int) < (n : Int) := by omega
      have hki : (k : Int) ≤ 17592186044416 := by omega
      obtain ⟨_, b, off, hA, hbn, hcs⟩ := HL.out.rd.int (by rw [hn.out]; omega)
      subst hA
      obtain ⟨x, hx⟩ : ∃ x, Hid (l.getD k 0 = x) := ⟨_, rfl⟩
      have hcx : wr.cell? ⟨b, off + k, none⟩ = some (.int .i64 x) := by
        rw [HK.out.1.below.cell (p := ⟨b, off + k, none⟩) hbn, hcs k (by rw [hn.out]; omega), hx.out]
      have hxb := HL.out.lt x (by rw [← hx.out]; simp only [List.getD]; rw [List.getElem?_eq_getElem (by rw [hn.out]; omega)]; exact List.getElem_mem _)
      have HXB := Lib.hid hxb
      clear hcs hxb
      go_upto_if 23 with (go_at_call 13; refine (pick_any x _ _ (by omega) (by omega)).mono ?_; rintro e w' ⟨rfl, rfl⟩)
      go_cut [9] (fun v wx => ∃ kk : Int, v = .int .i64 kk ∧ wr = wx)
      case first =>
        cases ht : (x % 19 == 18) with
        | true =>
          go_wp2_with fail
          refine (num_any x _ HXB.out.1 HXB.out.2).mono ?_
          rintro e w' ⟨rfl, rfl⟩
          go_wp2_with fail
          go_meet
          case rel => exact ⟨_, rfl, rfl⟩
        | false =>
          go_wp2_with fail
          go_meet
          case rel => exact ⟨_, rfl, rfl⟩
      case rest =>
        obtain ⟨kk, rfl, rfl⟩ := hcut
        clear HXB hcx
        have HS1 := Lib.hid (sample_one _ HK.out.1 kk)
        go_wp2_with fail
        refine HS1.out.mono ?_
        rintro e w1 ⟨rfl, h1, hg⟩
        have HK1 : Hid (Two w w1 p (p + 1) (samp s kk) s) := ⟨h1, HK.out.2.1.but hg HK.out.1.new (Ne.symm HK.out.2.2), HK.out.2.2⟩
        clear h1 hg HS1
        have HS2 := Lib.hid (rsample_one _ HK1.out.2.1 kk)
        go_wp2_with fail
        refine HS2.out.mono ?_
        rintro e w2 ⟨rfl, h1, hg⟩
        have HK2 : Hid (Two w w2 p (p + 1) (samp s kk) (samp s kk)) := ⟨HK1.out.1.but hg HK1.out.2.1.new HK1.out.2.2, h1, HK.out.2.2⟩
        obtain ⟨s1, hs1⟩ : ∃ z, Hid (samp s kk = z) := ⟨_, rfl⟩
        rw [hs1.out] at HK2
        clear h1 hg HS2 HK1
        have hf2 := HK2.out.1.cells.2.2.2.2 2
        have hc2 := HK2.out.1.cells.2.2.1
        have hf3 := HK2.out.2.1.cells.2.2.2.2 2
        have hc3 := HK2.out.2.1.cells.2.2.1
        go_upto_region 13 with (go_at_call 13; refine (pick_any bk _ _ (by omega) (by omega)).mono ?_; rintro e w' ⟨rfl, rfl⟩)
        have g1 := HK2.out.1.back (bk % 14 - 2)
        have g2 := HK2.out.2.1.but g1.2 HK2.out.1.new (Ne.symm HK2.out.2.2)
        have g3 := g2.back (bk % 14 - 2)
        have h4 : Two w ((w2.setCell ⟨p, 2, none⟩ (.int .i64 (bk % 14 - 2))).setCell ⟨p + 1, 2, none⟩ (.int .i64 (bk % 14 - 2))) p (p + 1) (back s1 (bk % 14 - 2)) (back s1 (bk % 14 - 2)) := ⟨g1.1.but g3.2 g2.new HK2.out.2.2, g3.1, HK2.out.2.2⟩
        obtain ⟨s2, hs2⟩ : ∃ z, Hid (back s1 (bk % 14 - 2) = z) := ⟨_, rfl⟩
        rw [hs2.out] at h4
        clear g1 g2 g3 hf2 hc2 hf3 hc3 HK2
        generalize (w2.setCell ⟨p, 2, none⟩ (.int .i64 (bk % 14 - 2))).setCell ⟨p + 1, 2, none⟩ (.int .i64 (bk % 14 - 2)) = w3 at h4 ⊢
        have HK3 := Lib.hid h4
        have HRO := Lib.hid (round_one _ h4.1)
        have HRR := Lib.hid (rround_one _ h4.2.1)
        have HWA := Lib.hid (wait_one _ h4.1)
        have HRW := Lib.hid (rwait_one _ h4.2.1)
        have HLA := Lib.hid (fun m => late_one _ (h4.1.drewN m))
        have HRL := Lib.hid (fun m => rlate_one _ (h4.2.1.drewN m))
        obtain ⟨a0, a1, _, a3, _⟩ := h4.1.cells
        obtain ⟨b0, b1, _, b3, _⟩ := h4.2.1.cells
        clear h4
        obtain ⟨v0, hv0⟩ : ∃ z, Hid (s2.sm = z) := ⟨_, rfl⟩
        obtain ⟨v1, hv1⟩ : ∃ z, Hid (s2.va = z) := ⟨_, rfl⟩
        obtain ⟨v3, hv3⟩ : ∃ z, Hid (s2.so = z) := ⟨_, rfl⟩
        obtain ⟨r, hr'⟩ : ∃ z, Hid (roundF s2 = z) := ⟨_, rfl⟩
        obtain ⟨t, ht'⟩ : ∃ z, Hid (waitF s2 = z) := ⟨_, rfl⟩
        obtain ⟨d, hd'⟩ : ∃ z, Hid (lateF s2 = z) := ⟨_, rfl⟩
        rw [hv0.out] at a0 b0
        rw [hv1.out] at a1 b1
        rw [hv3.out] at a3 b3
        rw [hr'.out] at HRO HRR
        rw [ht'.out] at HWA HRW
        rw [hd'.out] at HLA HRL
        go_wp2_with (first | (go_at_call 11; refine HRO.out.mono ?_; rintro e w' ⟨rfl, rfl⟩) | (go_at_call 8; refine HWA.out.mono ?_; rintro e w' ⟨rfl, rfl⟩) | (go_at_call 16; refine HRR.out.mono ?_; rintro e w' ⟨rfl, rfl⟩))
        refine HRW.out.mono ?_
        rintro e w' ⟨rfl, m, rfl⟩
        go_wp2_with (first | (go_at_call 12; refine (HLA.out m).mono ?_; rintro e w' ⟨rfl, rfl⟩) | (go_at_call 18; refine (HRL.out m).mono ?_; rintro e w' ⟨rfl, rfl⟩))
        go_roundw
        case rel => exact ⟨k + 1, s2, by omega, by go_num, HK3.out.1.drewN m, HK3.out.2.1.drewN m, HK3.out.2.2⟩
        case measure => simp [intOf]; omega
    · obtain rfl : k = n := by omega
      go_wp2_with fail
      refine (RtKn.known_any _).mono ?_
      rintro e w2 ⟨rfl, hb⟩
      have HB := HK.out.1.below.trans (hb.mono HK.out.1.below.size)
      go_wp2_with fail
      go_ret
      exact ⟨rfl, HB⟩
end Go.Proofs.Ytkcdemdgnleckaa.Rtt
