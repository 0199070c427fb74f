/- The queue's Drop: contract. Conditions: as each theorem lists them. -/
import Derived.Test.YtlaopkkfgkcejaaJQf
set_option linter.unusedSimpArgs false
set_option linter.unusedVariables false

namespace Go.Proofs.Ytlaopkkfgkcejaa.Qu
open Go Go.RowKit Go.Proofs.Ytlaopkkfgkcejaa

set_option maxRecDepth 100000 in
set_option maxHeartbeats 4000000 in
theorem drop_any {w : World} {p lo : Nat} {ks : List It} (hq : QIn w p lo ks) (l : List Int) (m c : Nat) (B : Option Addr) (hA : At w (p + 1) B m (ints l)) (hc : m ≤ c) (hm : m ≤ 1000000) :
    Calls Try.prog 9 #[.pointer (some ⟨p, 0, none⟩), .slice B m c] w fun e w' => e = .returned (.int .i64 ((ks.length : Int) - ((ks.filter (keeps l)).length : Int))) ∧ QIn w' p lo (ks.filter (keeps l)) ∧ w.grownBy w' (some p) := by
  obtain ⟨n, hn⟩ : ∃ n, ks.length = n := ⟨_, rfl⟩
  obtain ⟨k, hk⟩ : ∃ k, (ks.filter (keeps l)).length = k := ⟨_, rfl⟩
  have hkn : k ≤ n := by rw [← hk, ← hn]; exact List.length_filter_le _ _
  have hn32 : n ≤ 32 := by rw [← hn]; exact hq.le
  have hnI : (n : Int) ≤ 32 := by omega
  have hn0I : (0 : Int) ≤ (n : Int) := by omega
  have hknI : (k : Int) ≤ (n : Int) := by omega
  have hk0I : (0 : Int) ≤ (k : Int) := by omega
  have hp := hq.lt
  have hpn : p ≠ w.heap.size := by omega
  have hb : Below w.heap.size w (w.alloc (.cells #[.slice B m c] 32)) := (Below.refl _ _).alloc (Nat.le_refl _) _
  have hq1 : QAt (w.alloc (.cells #[.slice B m c] 32)) p lo ks n := by rw [← hn]; exact QAt.below hq hb
  have hq2 : QAt ((w.alloc (.cells #[.slice B m c] 32)).drew) p lo ks n := hq1.below (Below.refl _ _).drew
  have hN : NotesIn ((w.alloc (.cells #[.slice B m c] 32)).drew) p w.heap.size B m c l := ⟨by simp, hp, hA.below hb.drew, hc, hm⟩
  have HDEL := Lib.hid (deletefunc_any hq2 l w.heap.size m c B hN)
  rw [hk, hn] at HDEL
  have HB := Lib.hid hb
  have c64 : w.cell? ⟨p, 64, none⟩ = some (.int .i64 (n : Int)) := by rw [← hn]; exact hq.num
  have w1 : IntKind.i64.wrap ((n : Int) - (k : Int)) = (n : Int) - (k : Int) := IntWalk.i64_in _ (by omega)
  rw [hn, hk]
  clear hq hA hb hq1 hq2 hN hc hm
  go_enter Try.func9, Try.ntmps9
  go_wp2_with fail
  refine wp_region_held_drew (S := (fun _ => True)) (by kernel_rfl) ?_ (fun hHeld => ?_)
  · exact trivial
  refine wpAnyH_take (i := 0) (v := ?_) rfl (by kernel_rfl) (by kernel_rfl) (by kernel_rfl) (fun _ _ _ h => h) (Or.inl ⟨by rfl, ?_⟩) (by assumption) ?_
  rotate_left
  · intro w hSw; (try dsimp only at hSw); go_simp; try with_reducible rfl
  go_simp
  refine wpAnyH_take (i := 1) (v := ?_) rfl (by kernel_rfl) (by kernel_rfl) (by kernel_rfl) (fun _ _ _ h => h) (Or.inl ⟨by rfl, ?_⟩) (by assumption) ?_
  rotate_left
  · intro w hSw; (try dsimp only at hSw); go_simp; try with_reducible rfl
  go_simp
  refine wpAnyH_take (i := 2) (v := ?_) rfl (by kernel_rfl) (by kernel_rfl) (by kernel_rfl) (fun _ _ _ h => h) (Or.inl ⟨by rfl, ?_⟩) (by assumption) ?_
  rotate_left
  · intro w hSw; (try dsimp only at hSw); go_simp; try with_reducible rfl
  go_simp
  refine wpAnyH_take (i := 3) (v := ?_) rfl (by kernel_rfl) (by kernel_rfl) (by kernel_rfl) (fun _ _ _ h => h) (Or.inl ⟨by rfl, ?_⟩) (by assumption) ?_
  rotate_left
  · intro w hSw; (try dsimp only at hSw); go_simp; try with_reducible rfl
  go_simp
  refine wpAnyH_take (i := 4) (v := ?_) rfl (by kernel_rfl) (by kernel_rfl) (by kernel_rfl) (fun _ _ _ h => h) (Or.inl ⟨by rfl, ?_⟩) (by assumption) ?_
  rotate_left
  · intro w hSw; (try dsimp only at hSw); go_simp; try with_reducible rfl
  go_simp
  refine wpAnyH_take (i := 5) (v := ?_) rfl (by kernel_rfl) (by kernel_rfl) (by kernel_rfl) (fun _ _ _ h => h) (Or.inl ⟨by rfl, ?_⟩) (by assumption) ?_
  rotate_left
  · intro w hSw; (try dsimp only at hSw); go_simp; try with_reducible rfl
  go_simp
  refine wpAnyH_take (i := 8) (v := ?_) rfl (by kernel_rfl) (by kernel_rfl) (by kernel_rfl) (fun _ _ _ h => h) (Or.inl ⟨by rfl, ?_⟩) (by assumption) ?_
  rotate_left
  · intro w hSw; (try dsimp only at hSw); go_simp; try with_reducible rfl
  go_simp
  refine wpAnyH_ready (rs := [6]) (by kernel_rfl) (by simp) ?_
  refine AllReadyH.cons rfl (fun K hK => ?_) AllReadyH.nil
  go_simp
  refine hK.out _ _ ?_ (fun hHeld => ?_)
  · exact trivial
  clear hK K
  go_simp
  refine wpAnyH_take (i := 7) (v := ?_) rfl (by kernel_rfl) (by kernel_rfl) (by kernel_rfl) (fun _ _ _ h => h) (Or.inl ⟨by rfl, ?_⟩) (by assumption) ?_
  rotate_left
  · intro w hSw; (try dsimp only at hSw); go_simp; try with_reducible rfl
  go_simp
  refine wpAnyH_ready (rs := [9]) (by kernel_rfl) (by simp) ?_
  refine AllReadyH.cons rfl (fun K hK => ?_) AllReadyH.nil
  go_simp
  refine HDEL.out.mono ?_
  rintro e w8 ⟨rfl, hq8, hg8⟩
  have n8 := hq8.num
  have f8 := (hq8.room 64 (by omega)).2
  have HQ8 := Lib.hid hq8
  have HG8 := Lib.hid hg8
  clear hq8 hg8
  refine hK.out _ _ ?_ (fun hHeld => ?_)
  · exact trivial
  clear hK K
  go_simp
  refine wpAnyH_take (i := 10) (v := ?_) rfl (by kernel_rfl) (by kernel_rfl) (by kernel_rfl) (fun _ _ _ h => h) (Or.inl ⟨by rfl, ?_⟩) (by assumption) ?_
  rotate_left
  · intro w hSw; (try dsimp only at hSw); go_simp; try with_reducible rfl
  go_simp
  refine wpAnyH_done (by kernel_rfl) ?_ _
  go_wp2_with fail
  go_ret
  refine ⟨rfl, ?_, ?_⟩
  · unfold QIn
    rw [hk]
    exact HQ8.out.say k
  · exact grown_set (grown_trans (grown_drew (grown_of_below p HB.out)) HG8.out) 64 _
end Go.Proofs.Ytlaopkkfgkcejaa.Qu
