/- The reference's Mask: a contract. Conditions: as it lists them. -/
import Derived.Test.YtegfaecbealnhabR1
import Derived.Deep.RegionHeld3
namespace Go.Proofs.Ytegfaecbealnhab
open Go Go.RowKit

set_option maxRecDepth 100000 in
set_option maxHeartbeats 400000 in
theorem rmask_any (key : Nat) (num : Int) (l : List Nat) (B : Nat) (A : Option Addr) (cap : Nat) (w : World) (hk : key < 2 ^ 64) (hx : Rd w B A l.length (bv l)) (hB : B ≤ w.heap.size) (hb : ∀ c ∈ l, c < 256) (hn : l.length ≤ cap) (hm : l.length ≤ 140737488355328) :
    Calls Try.prog 45 #[.int .u64 (key : Int), .int .i64 num, .slice A l.length cap] w fun e w' => ∃ v', e = .returned v' ∧ w'.ownsRow w.heap.size 5 1 v' l.length (bv (maskN (stpN key (unN num)) l)) ∧ Below w.heap.size w w' := by
  have HX := Lib.hid hx
  have HB := Lib.hid hb
  have HBw := Lib.hid hB
  have hh := stpN_lt key (unN num)
  have N : ∀ W, Calls Try.prog 43 #[.int .u64 (key : Int), .int .u64 (IntKind.u64.wrap num)] W fun e w' => e = .returned (.int .u64 (stpN key (unN num) : Int)) ∧ w' = W := fun W => by
    have := rstep_any key (unN num) W hk (unN_lt num)
    rw [← unN_wrap] at this
    exact this.mono fun e w' h => ⟨h.1, h.2.symm⟩
  have N := Lib.hid N
  obtain ⟨h, hhh⟩ : ∃ h, Hid (stpN key (unN num) = h) := ⟨_, rfl⟩
  rw [hhh.out] at hh N ⊢
  obtain ⟨i0, hi, hz0, hz1, hz2⟩ := info_parts infoB
  have HI := Lib.hid (And.intro hi (And.intro hz0 (And.intro hz1 hz2)))
  have hlm : (l.length : Int) ≤ 140737488355328 := by omega
  clear hx hb hk hi hz0 hz1 hz2 hB
  go_enter Try.func45, Try.ntmps45
  go_wp2
  go_loopw [7, 8] (fun v i wr => ∃ k : Nat, k ≤ l.length ∧ i = .int .i64 k ∧ (∃ Ak ck, v = .slice Ak k ck) ∧ Hid (wr.ownsRow w.heap.size 5 1 v k (bv ((maskN h l).take k)) ∧ Below w.heap.size w wr)) (fun _ i _ => l.length - (intOf i).toNat)
  case atStart => exact ⟨0, Nat.zero_le _, rfl, ⟨_, _, rfl⟩, own_nil _ _ _ _, Below.refl _ _⟩
  case round =>
    obtain ⟨k, hk, rfl, ⟨Ak, ck, rfl⟩, HK⟩ := hrel
    by_cases hlt : k < l.length
    · have hlti : (k : Int) < (l.length : Int) := by omega
      obtain ⟨b, off, hA, hbn, hcs⟩ := HX.out.2 (by omega)
      have HC : Hid (∀ W, Below w.heap.size w W → W.cell? ⟨b, off + k, none⟩ = some (.int .u8 ((l.getD k 0 : Nat) : Int))) := fun W hW => by
        rw [hW.cell (p := ⟨b, off + k, none⟩) (Nat.lt_of_lt_of_le hbn HBw.out)]
        exact hcs k _ (bv_get l k hlt)
      have hx := getD_lt HB.out k
      have ST : Hid (∀ W, Calls Try.prog 43 #[.int .u64 (h : Int), .int .u64 (k : Int)] W fun e w' => e = .returned (.int .u64 (stpN h k : Int)) ∧ w' = W) := fun W => (rstep_any h k W hh (by omega)).mono fun e w' h => ⟨h.1, h.2.symm⟩
      have hst := stpN_lt h k
      have hT := takeD_snoc (maskN h l) k 0 (by rw [maskN_len]; exact hlt)
      rw [maskN_get h l k hlt] at hT
      have hT := Lib.hid hT
      obtain ⟨x, hxx⟩ : ∃ x, Hid (l.getD k 0 = x) := ⟨_, rfl⟩
      obtain ⟨t, htt⟩ : ∃ t, Hid (stpN h k = t) := ⟨_, rfl⟩
      have HF := mask_form t x (by rw [← hxx.out]; exact hx) (by rw [← htt.out]; exact hst)
      have HMB : Hid (mb h k x = x ^^^ (t / 2 ^ 32 % 256)) := by show _ = _; rw [← htt.out]; rfl
      rw [← HMB.out] at HF
      rw [hxx.out] at HC hx hT
      rw [htt.out] at ST hst
      subst hA
      clear hcs HMB
      go_wp2_with fail
      have HZ : Hid (wr.drew.ownsRow w.heap.size 5 1 (.slice Ak k ck) k (bv ((maskN h l).take k)) ∧ Below w.heap.size w wr.drew) := ⟨HK.out.1.drew, HK.out.2.drew⟩
      have HZS : Hid (∀ W, Below w.heap.size w W → Below w.heap.size w W ∧ W.cell? ⟨b, off + k, none⟩ = some (.int .u8 (x : Int))) := fun W hW => ⟨hW, HC.out W hW⟩
      have hbk2 : Hid (w.heap.size ≤ (wr.drew.alloc (.cells #[.int .u8 ((mb h k x : Nat) : Int)] 5)).heap.size) := by have := HZ.out.2.size; show _ ≤ _; simp only [World.size_alloc]; omega
      have hwk : IntKind.u64.wrap (k : Int) = (k : Int) := by rw [wrap_u64']; omega
      have hwt : IntKind.u8.wrap ((t : Int) / 4294967296) = (t : Int) / 4294967296 % 256 := IntKind.wrap_u8' _
      refine wp_region_held_drew (S := fun W' => Below w.heap.size w W' ∧ W'.cell? ⟨b, off + k, none⟩ = some (.int .u8 (x : Int))) (by kernel_rfl) ?_ (fun hHeld => ?_)
      · exact HZS.out _ HZ.out.2
      refine wpAnyH_take (i := 0) (v := ?_) rfl (by kernel_rfl) (by kernel_rfl) (by kernel_rfl) (fun _ _ _ h => h) (Or.inl ⟨by rfl, ?_⟩) (by assumption) ?_
      rotate_left
      · intro w hSw; (try dsimp only at hSw); go_simp; try with_reducible rfl
      go_simp
      refine wpAnyH_take (i := 1) (v := ?_) rfl (by kernel_rfl) (by kernel_rfl) (by kernel_rfl) (fun _ _ _ h => h) (Or.inl ⟨by rfl, ?_⟩) (by assumption) ?_
      rotate_left
      · intro w hSw; (try dsimp only at hSw); go_simp; try with_reducible rfl
      go_simp
      refine wpAnyH_take (i := 2) (v := ?_) rfl (by kernel_rfl) (by kernel_rfl) (by kernel_rfl) (fun _ _ _ h => h) (Or.inl ⟨by rfl, ?_⟩) (by assumption) ?_
      rotate_left
      · intro w hSw; (try dsimp only at hSw); go_simp; try with_reducible rfl
      go_simp
      refine wpAnyH_take (i := 3) (v := ?_) rfl (by kernel_rfl) (by kernel_rfl) (by kernel_rfl) (fun _ _ _ h => h) (Or.inl ⟨by rfl, ?_⟩) (by assumption) ?_
      rotate_left
      · intro w hSw; (try dsimp only at hSw); go_simp; try with_reducible rfl
      go_simp
      refine wpAnyH_take (i := 4) (v := ?_) rfl (by kernel_rfl) (by kernel_rfl) (by kernel_rfl) (fun _ _ _ h => h) (Or.inl ⟨by rfl, ?_⟩) (by assumption) ?_
      rotate_left
      · intro w hSw; (try dsimp only at hSw); go_simp; try with_reducible rfl
      go_simp
      refine wpAnyH_take (i := 5) (v := ?_) rfl (by kernel_rfl) (by kernel_rfl) (by kernel_rfl) (fun _ _ _ h => h) (Or.inl ⟨by rfl, ?_⟩) (by assumption) ?_
      rotate_left
      · intro w hSw; (try dsimp only at hSw); go_simp; try with_reducible rfl
      go_simp
      refine wpAnyH_take (i := 6) (v := ?_) rfl (by kernel_rfl) (by kernel_rfl) (by kernel_rfl) (fun _ _ _ h => h) (Or.inl ⟨by rfl, ?_⟩) (by assumption) ?_
      rotate_left
      · intro w hSw; (try dsimp only at hSw); go_simp; try with_reducible rfl
      go_simp
      refine wpAnyH_take (i := 7) (v := ?_) rfl (by kernel_rfl) (by kernel_rfl) (by kernel_rfl) (fun _ _ _ h => h) (Or.inl ⟨by rfl, ?_⟩) (by assumption) ?_
      rotate_left
      · intro w hSw; (try dsimp only at hSw); go_simp; try with_reducible rfl
      go_simp
      refine wpAnyH_take (i := 9) (v := ?_) rfl (by kernel_rfl) (by kernel_rfl) (by kernel_rfl) (fun _ _ _ h => h) (Or.inl ⟨by rfl, ?_⟩) (by assumption) ?_
      rotate_left
      · intro w hSw; (try dsimp only at hSw); go_simp; try with_reducible rfl
      go_simp
      refine wpAnyH_take (i := 10) (v := ?_) rfl (by kernel_rfl) (by kernel_rfl) (by kernel_rfl) (fun _ _ _ h => h) (Or.inl ⟨by rfl, ?_⟩) (by assumption) ?_
      rotate_left
      · intro w hSw; (try dsimp only at hSw); go_simp; try with_reducible rfl
      go_simp
      refine wpAnyH_ready (rs := [8]) (by kernel_rfl) (by simp) ?_
      refine AllReadyH.cons rfl (fun K hK => ?_) AllReadyH.nil
      go_simp
      refine (N.out _).mono ?_
      rintro e w' ⟨rfl, rfl⟩
      refine hK.out _ _ ?_ (fun hHeld => ?_)
      · exact HZS.out _ HZ.out.2
      clear hK K
      go_simp
      refine wpAnyH_ready (rs := [11]) (by kernel_rfl) (by simp) ?_
      refine AllReadyH.cons rfl (fun K hK => ?_) AllReadyH.nil
      go_simp
      refine (ST.out _).mono ?_
      rintro e w' ⟨rfl, rfl⟩
      refine hK.out _ _ ?_ (fun hHeld => ?_)
      · exact HZS.out _ HZ.out.2
      clear hK K
      go_simp
      refine wpAnyH_take (i := 12) (v := ?_) rfl (by kernel_rfl) (by kernel_rfl) (by kernel_rfl) (fun _ _ _ h => h) (Or.inl ⟨by rfl, ?_⟩) (by assumption) ?_
      rotate_left
      · intro w hSw; (try dsimp only at hSw); go_simp; try with_reducible rfl
      go_simp
      refine wpAnyH_take (i := 13) (v := ?_) rfl (by kernel_rfl) (by kernel_rfl) (by kernel_rfl) (fun _ _ _ h => h) (Or.inl ⟨by rfl, ?_⟩) (by assumption) ?_
      rotate_left
      · intro w hSw; (try dsimp only at hSw); go_simp; try with_reducible rfl
      go_simp
      refine wpAnyH_take (i := 14) (v := ?_) rfl (by kernel_rfl) (by kernel_rfl) (by kernel_rfl) (fun _ _ _ h => h) (Or.inl ⟨by rfl, ?_⟩) (by assumption) ?_
      rotate_left
      · intro w hSw; (try dsimp only at hSw); go_simp; try with_reducible rfl
      go_simp
      refine wpAnyH_ready (rs := [15]) (by kernel_rfl) (by simp) ?_
      refine AllReadyH.cons rfl (fun K hK => ?_) AllReadyH.nil
      go_simp
      refine hK.out _ _ ?_ (fun hHeld => ?_)
      · exact HZS.out _ (HZ.out.2.alloc HZ.out.2.size _)
      clear hK K
      go_simp
      refine wpAnyH_ready (rs := [16]) (by kernel_rfl) (by simp) ?_
      refine AllReadyH.cons rfl (fun K hK => ?_) AllReadyH.nil
      refine step_own rfl (.tmp 15) (.tmp 30) 53 rfl w.heap.size 5 i0 (.int .u8 0) 1 1 Try.underlying53 HI.out.1 HI.out.2.1 HI.out.2.2.1 HI.out.2.2.2 rfl (by decide) (.slice Ak k ck) k (bv ((maskN h l).take k)) (by simp [Act.eval, Act.put]) (HZ.out.1.alloc _) (wr.heap.size + 1) (some ⟨wr.heap.size, 0, none⟩) 1 1 [.int .u8 ((mb h k x : Nat) : Int)] (by simp [Act.eval, Act.put]) (rd_new _ _ _ _ _ _ _ rfl (by simp) rfl rfl) (by simp [ones, Value.oneCell']) (by unfold maxLen; omega) (by omega) hbk2.out ?_
      intro v1 w1 hown1 hgrow1
      have HN : Hid (w1.ownsRow w.heap.size 5 1 v1 (k + 1) (bv ((maskN h l).take (k + 1))) ∧ Below w.heap.size w w1) := by
        refine ⟨?_, (HZ.out.2.alloc HZ.out.2.size _).grown hgrow1 hbk2.out (fun g hg => (HZ.out.1.lt g hg).1)⟩
        rw [hT.out, bv_app, show bv [mb h k x] = [.int .u8 ((mb h k x : Nat) : Int)] from rfl]
        exact hown1
      obtain ⟨A1, c1, e1, _⟩ := own_form hown1
      subst e1
      clear hown1 hgrow1
      refine hK.out _ _ ?_ (fun hHeld => ?_)
      · exact HZS.out _ HN.out.2
      clear hK K
      go_simp
      refine wpAnyH_take (i := 17) (v := ?_) rfl (by kernel_rfl) (by kernel_rfl) (by kernel_rfl) (fun _ _ _ h => h) (Or.inl ⟨by rfl, ?_⟩) (by assumption) ?_
      rotate_left
      · intro w hSw; (try dsimp only at hSw); go_simp; try with_reducible rfl
      go_simp
      refine wpAnyH_done (by kernel_rfl) ?_ _
      clear hwk hwt HF
      go_wp2_with fail
      go_roundw
      case rel => exact ⟨k + 1, by omega, by go_num, ⟨_, _, rfl⟩, HN⟩
      case measure => simp [intOf]; omega
    · obtain rfl : k = l.length := by omega
      have e : (maskN h l).take l.length = maskN h l := List.take_of_length_le (by rw [maskN_len]; exact Nat.le_refl _)
      rw [e] at HK
      clear e
      go_wp2
      go_ret
      exact ⟨_, rfl, HK.out⟩
end Go.Proofs.Ytegfaecbealnhab
