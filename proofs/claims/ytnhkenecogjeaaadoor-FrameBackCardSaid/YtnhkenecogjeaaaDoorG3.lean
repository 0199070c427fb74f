/- The hand's Frame, of a raw one that is not bent: an Ack, a Stream. Conditions: as each theorem lists them. -/
import Derived.Test.YtnhkenecogjeaaaDoorG2
namespace Go.Proofs.YtnhkenecogjeaaaDoor
open Go Go.RowKit

set_option maxRecDepth 100000 in
set_option maxHeartbeats 1000000 in
theorem frame_2 (k id off a b : Int) (fin : Bool) (A : Option Addr) (bs : List Nat) (c : Nat) (A2 : Option Addr) (l : List Int) (c2 : Nat) (w : World) (hp : k % 12 = 1) (hl : Rd w w.heap.size A2 l.length (ints l)) (hlc : l.length ≤ c2) (hlm : l.length ≤ 17592186044416) (hllt : ∀ n ∈ l, -9223372036854775808 ≤ n ∧ n ≤ 9223372036854775807) :
    Calls Tryd.prog 29 #[.agg #[.int .i64 k, .int .i64 id, .int .i64 off, .int .i64 a, .int .i64 b, .int .i64 0, .bool fin, .slice A bs.length c, .slice A2 l.length c2]] w (FrameP w) := by
  have HP : Hid (∀ W, Calls Tryd.prog 15 #[.int .i64 k, .int .i64 12] W fun e w' => e = .returned (.int .i64 1) ∧ W = w') := fun W => by have := pick_any k 12 W (by decide) (by decide); rw [hp] at this; exact this
  have HB : Hid (∀ W, Calls Tryd.prog 15 #[.int .i64 0, .int .i64 20] W fun e w' => e = .returned (.int .i64 0) ∧ W = w') := fun W => pick_any 0 20 W (by decide) (by decide)
  have HU : Hid (∀ W, Below w.heap.size w W → Calls Tryd.prog 41 #[.slice A2 l.length c2] W (RunsP W)) := fun W hW => runs_any l w.heap.size A2 c2 W (hl.below hW (Nat.le_refl _)) hW.size hllt hlm hlc
  clear hl hllt
  clear hp
  go_enter Tryd.func29, Tryd.ntmps29
  go_wp2_with fail
  refine (HP.out _).mono ?_
  rintro e w' ⟨rfl, rfl⟩
  go_wp2_with fail
  refine (HU.out _ ((((Below.refl _ _).alloc (Nat.le_refl _) _).alloc (by simp) _).alloc (by simp; omega) _)).mono ?_
  rintro e w1 ⟨A1, m1, c1, es, rfl, hm1, hm8, hsp, ho1, hb1⟩
  have HO := Lib.hid (own_base (base' := w.heap.size + 3) ho1 (by simp))
  have HSP := Lib.hid hsp
  clear ho1 hsp
  obtain ⟨hc1, hf1⟩ := bcell hb1
  have hz1 : w.heap.size + 2 < w1.heap.size := by have := hb1.size; simp at this; omega
  have HB1 : Hid (Below w.heap.size w w1) := ((((Below.refl _ _).alloc (Nat.le_refl _) _).alloc (by simp) _).alloc (by simp; omega) _).trans (hb1.mono (by simp; omega))
  clear hb1
  go_wp2_with fail
  refine (HB.out _).mono ?_
  rintro e w' ⟨rfl, rfl⟩
  go_wp2_with fail
  refine bodyPost_ret (v := frA ⟨2, 0, 0, 0, 0, 0, false, [], es⟩ none 0 0 A1 m1 c1) (by simp [results, Tryd.results29, go_sem, frA, hc1]) rfl ?_
  refine ⟨⟨2, 0, 0, 0, 0, 0, false, [], es⟩, _, rfl, okF_mk _ _ _ _ _ _ _ _ (by decide) ⟨wid0, wid0, wid0, wid0⟩ (by omega) ⟨by simp, by simp⟩ (by simp only [List.length_nil]; omega) (by simp) (by simp) (by simp) (by simp) (by simp) (by simp) (by simp) (.inl ⟨rfl, m1, hm1, hm8, HSP.out⟩), ?_, ?_⟩
  · refine ⟨none, 0, 0, A1, m1, c1, rfl, rfl, HSP.out.1, ?_, ?_⟩
    ·
      exact own_nil _ _ _ _
    ·
      refine own_base (base := w.heap.size + 3) ?_ (by omega)
      iterate 10 (refine ownsRow_setCell_below ?_ (by simp; try omega) _)
      exact HO.out
  ·
    exact ((((((((((HB1.out.setCell (p := ⟨w.heap.size + 1 + 1, 8, none⟩) (Nat.le_add_right _ 2) _).setCell (p := ⟨w.heap.size + 1, 0, none⟩) (Nat.le_add_right _ 1) _).setCell (p := ⟨w.heap.size + 1, 1, none⟩) (Nat.le_add_right _ 1) _).setCell (p := ⟨w.heap.size + 1, 2, none⟩) (Nat.le_add_right _ 1) _).setCell (p := ⟨w.heap.size + 1, 3, none⟩) (Nat.le_add_right _ 1) _).setCell (p := ⟨w.heap.size + 1, 4, none⟩) (Nat.le_add_right _ 1) _).setCell (p := ⟨w.heap.size + 1, 5, none⟩) (Nat.le_add_right _ 1) _).setCell (p := ⟨w.heap.size + 1, 6, none⟩) (Nat.le_add_right _ 1) _).setCell (p := ⟨w.heap.size + 1, 7, none⟩) (Nat.le_add_right _ 1) _).setCell (p := ⟨w.heap.size + 1, 8, none⟩) (Nat.le_add_right _ 1) _)
set_option maxRecDepth 100000 in
set_option maxHeartbeats 1000000 in
theorem frame_3 (k id off a b : Int) (fin : Bool) (A : Option Addr) (bs : List Nat) (c : Nat) (A2 : Option Addr) (l : List Int) (c2 : Nat) (w : World) (hp : k % 12 = 2) (hid1 : -9223372036854775808 ≤ id) (hid2 : id ≤ 9223372036854775807) (hoff1 : -9223372036854775808 ≤ off) (hoff2 : off ≤ 9223372036854775807) (hbs : Rd w w.heap.size A bs.length (bv bs)) (hbc : bs.length ≤ c) (hbm : bs.length ≤ 140737488355328) (hblt : ∀ x ∈ bs, x < 256) :
    Calls Tryd.prog 29 #[.agg #[.int .i64 k, .int .i64 id, .int .i64 off, .int .i64 a, .int .i64 b, .int .i64 0, .bool fin, .slice A bs.length c, .slice A2 l.length c2]] w (FrameP w) := by
  have HP : Hid (∀ W, Calls Tryd.prog 15 #[.int .i64 k, .int .i64 12] W fun e w' => e = .returned (.int .i64 2) ∧ W = w') := fun W => by have := pick_any k 12 W (by decide) (by decide); rw [hp] at this; exact this
  have HB : Hid (∀ W, Calls Tryd.prog 15 #[.int .i64 0, .int .i64 20] W fun e w' => e = .returned (.int .i64 0) ∧ W = w') := fun W => pick_any 0 20 W (by decide) (by decide)
  have HMid := Lib.hid (fun W => hmay_any id W hid1 hid2)
  have Mid := mayF_in id
  obtain ⟨id_, hmid⟩ : ∃ y, Hid (mayF id = y) := ⟨_, rfl⟩
  rw [hmid.out] at HMid Mid
  obtain ⟨Mid1, Mid2⟩ := Mid
  have HKoff := Lib.hid (fun W => pick_any off (1099511627776) W (by omega) (by omega))
  have Koff1 := Int.emod_nonneg off (show (1099511627776 : Int) ≠ 0 by omega)
  have Koff2 := Int.emod_lt_of_pos off (show (0 : Int) < 1099511627776 by omega)
  obtain ⟨off_, hkoff⟩ : ∃ y, Hid (off % (1099511627776) = y) := ⟨_, rfl⟩
  rw [hkoff.out] at HKoff Koff1 Koff2
  have HDL : Hid (∃ d, bs.take 120 = d ∧ d.length ≤ 120 ∧ ∀ x ∈ d, x < 256) := ⟨_, rfl, by rw [List.length_take]; omega, fun x hx => hblt x (List.mem_of_mem_take hx)⟩
  obtain ⟨d, hd, hd120, hdlt⟩ := HDL.out
  have HBL := Lib.hid hdlt
  have HF : Hid (∀ W, Below w.heap.size w W → Calls Tryd.prog 43 #[.slice A bs.length c, .int .i64 120] W fun e w' => ∃ v', e = .returned v' ∧ w'.ownsRow W.heap.size 5 1 v' d.length (bv d) ∧ Below W.heap.size W w') := fun W hW => by have := few_any bs w.heap.size A c 120 W (hbs.below hW (Nat.le_refl _)) hW.size hbc hbm; rw [hd] at this; exact this
  clear hblt hbs hd hdlt HDL
  clear hp
  go_enter Tryd.func29, Tryd.ntmps29
  go_wp2_with fail
  refine (HP.out _).mono ?_
  rintro e w' ⟨rfl, rfl⟩
  go_wp2_with fail
  refine (HMid.out _).mono ?_
  rintro e w' ⟨rfl, rfl⟩
  go_wp2_with fail
  refine (HKoff.out _).mono ?_
  rintro e w' ⟨rfl, rfl⟩
  go_wp2_with fail
  refine (HF.out _ ((((Below.refl _ _).alloc (Nat.le_refl _) _).alloc (by simp) _).alloc (by simp; omega) _)).mono ?_
  rintro e w1 ⟨v1, rfl, ho1, hb1⟩
  obtain ⟨A1, c1, e1, _⟩ := own_form ho1
  subst e1
  have HO := Lib.hid (own_base (base' := w.heap.size + 3) ho1 (by simp))
  clear ho1
  obtain ⟨hc1, hf1⟩ := bcell hb1
  have hz1 : w.heap.size + 2 < w1.heap.size := by have := hb1.size; simp at this; omega
  have HB1 : Hid (Below w.heap.size w w1) := ((((Below.refl _ _).alloc (Nat.le_refl _) _).alloc (by simp) _).alloc (by simp; omega) _).trans (hb1.mono (by simp; omega))
  clear hb1
  go_wp2_with fail
  refine (HB.out _).mono ?_
  rintro e w' ⟨rfl, rfl⟩
  go_wp2_with fail
  refine bodyPost_ret (v := frA ⟨3, id_, off_, 0, 0, 0, fin, d, []⟩ A1 d.length c1 none 0 0) (by simp [results, Tryd.results29, go_sem, frA, hc1]) rfl ?_
  refine ⟨⟨3, id_, off_, 0, 0, 0, fin, d, []⟩, _, rfl, okF_mk _ _ _ _ _ _ _ _ (by decide) ⟨(wid_in (by omega) (by omega)), (wid_in (by omega) (by omega)), wid0, wid0⟩ (by omega) ⟨hd120, HBL.out⟩ (by omega) (by simp) (by simp) (by simp) (by simp) (by simp) (by simp) (by simp) (.inr ⟨by decide, rfl⟩), ?_, ?_⟩
  · refine ⟨A1, d.length, c1, none, 0, 0, rfl, rfl, rfl, ?_, ?_⟩
    ·
      refine own_base (base := w.heap.size + 3) ?_ (by omega)
      iterate 10 (refine ownsRow_setCell_below ?_ (by simp; try omega) _)
      exact HO.out
    ·
      exact own_nil _ _ _ _
  ·
    exact ((((((((((HB1.out.setCell (p := ⟨w.heap.size + 1 + 1, 7, none⟩) (Nat.le_add_right _ 2) _).setCell (p := ⟨w.heap.size + 1, 0, none⟩) (Nat.le_add_right _ 1) _).setCell (p := ⟨w.heap.size + 1, 1, none⟩) (Nat.le_add_right _ 1) _).setCell (p := ⟨w.heap.size + 1, 2, none⟩) (Nat.le_add_right _ 1) _).setCell (p := ⟨w.heap.size + 1, 3, none⟩) (Nat.le_add_right _ 1) _).setCell (p := ⟨w.heap.size + 1, 4, none⟩) (Nat.le_add_right _ 1) _).setCell (p := ⟨w.heap.size + 1, 5, none⟩) (Nat.le_add_right _ 1) _).setCell (p := ⟨w.heap.size + 1, 6, none⟩) (Nat.le_add_right _ 1) _).setCell (p := ⟨w.heap.size + 1, 7, none⟩) (Nat.le_add_right _ 1) _).setCell (p := ⟨w.heap.size + 1, 8, none⟩) (Nat.le_add_right _ 1) _)
end Go.Proofs.YtnhkenecogjeaaaDoor
