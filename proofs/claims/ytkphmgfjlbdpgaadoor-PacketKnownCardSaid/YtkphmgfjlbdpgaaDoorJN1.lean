/- PacketKnown: the walk. Conditions: the tables are laid. -/
import Derived.Test.YtkphmgfjlbdpgaaDoorJ10b
set_option linter.unusedSimpArgs false
set_option linter.unusedVariables false

namespace Go.Proofs.YtkphmgfjlbdpgaaDoor
open Go Go.RowKit

theorem pkLay_arg (a b : Int) (v : Value) (w : World) (h : (a, b) = (3, 3) ∨ (a, b) = (-1, -1) ∨ (a, b) = (3, -2)) :
    Calls Tryd.prog 21 #[.int .u64 7, .int .i64 a, .int .i64 b, v] w fun e w' => e = .returned (.tuple #[.slice none 0 0, .int .i64 1]) ∧ w = w' := by
  rcases h with h | h | h
  all_goals
    obtain ⟨rfl, rfl⟩ := Prod.mk.inj h
    go_enter Tryd.func21, Tryd.ntmps21
    go_wp2
    go_ret2
    exact ⟨rfl, rfl⟩

def fr0 : Fr := ⟨0, 0, 0, 0, 0, 0, false, [], []⟩
theorem fr0_bad : rightB fr0 = false := by decide

set_option maxRecDepth 100000 in
set_option maxHeartbeats 2000000 in
theorem lay_bad (g : Nat) (w : World) (hh : w.heap[g]? = some (.cells #[.int .i64 0, .int .i64 0, .int .i64 0, .int .i64 0, .int .i64 0, .int .i64 0, .bool false, .slice none 0 0, .slice none 0 0] 26 (0, 0))) :
    Calls Tryd.prog 12 #[.slice (some ⟨g, 0, none⟩) 1 1] w fun e w' => e = .returned (.tuple #[.slice none 0 0, .int .i64 1]) ∧ Below w.heap.size w w' := by
  have HRI : Hid (∀ W, Calls Tryd.prog 18 #[.agg #[.int .i64 0, .int .i64 0, .int .i64 0, .int .i64 0, .int .i64 0, .int .i64 0, .bool false, .slice none 0 0, .slice none 0 0]] W fun e w' => e = .returned (.bool false) ∧ Below W.heap.size W w') := fun W => by
    have := right_any fr0 W.heap.size none 0 0 none 0 0 W ⟨rfl, Nat.le_refl _, Rd.nil _ _ _, rfl, Nat.le_refl _, Rd.nil _ _ _⟩ (Nat.le_refl _) (by omega) (by omega)
    rw [fr0_bad] at this
    exact this
  have y0 := cell_of_row w g 0 _ _ _ hh
  have y1 := cell_of_row w g 1 _ _ _ hh
  have y2 := cell_of_row w g 2 _ _ _ hh
  have y3 := cell_of_row w g 3 _ _ _ hh
  have y4 := cell_of_row w g 4 _ _ _ hh
  have y5 := cell_of_row w g 5 _ _ _ hh
  have y6 := cell_of_row w g 6 _ _ _ hh
  have y7 := cell_of_row w g 7 _ _ _ hh
  have y8 := cell_of_row w g 8 _ _ _ hh
  clear hh
  go_enter Tryd.func12, Tryd.ntmps12
  go_wp2_with fail
  go_loopw [4, 9] (fun v i wr => v = .slice none 0 0 ∧ i = .int .i64 0 ∧ wr = w) (fun _ _ _ => 0)
  case atStart => exact ⟨rfl, rfl, rfl⟩
  case round =>
    obtain ⟨rfl, rfl, rfl⟩ := hrel
    go_wp2_with fail
    refine (HRI.out _).mono ?_
    rintro e w1 ⟨rfl, hb⟩
    have HB := Lib.hid (((Below.refl wr.heap.size wr).alloc (Nat.le_refl _) (.cells #[.int .i64 0, .int .i64 0, .int .i64 0, .int .i64 0, .int .i64 0, .int .i64 0, .bool false, .slice none 0 0, .slice none 0 0] 26)).trans (hb.mono (by simp)))
    clear hb
    go_wp2_with fail
    go_ret2
    exact ⟨rfl, HB.out⟩

set_option maxRecDepth 100000 in
theorem pkLay_bad (g : Nat) (w : World) (hh : w.heap[g]? = some (.cells #[.int .i64 0, .int .i64 0, .int .i64 0, .int .i64 0, .int .i64 0, .int .i64 0, .bool false, .slice none 0 0, .slice none 0 0] 26 (0, 0))) :
    Calls Tryd.prog 21 #[.int .u64 7, .int .i64 3, .int .i64 0, .slice (some ⟨g, 0, none⟩) 1 1] w fun e w' => e = .returned (.tuple #[.slice none 0 0, .int .i64 1]) ∧ Below w.heap.size w w' := by
  have HLB := Lib.hid (lay_bad g w hh)
  clear hh
  go_enter Tryd.func21, Tryd.ntmps21
  go_wp2_with fail
  refine HLB.out.mono ?_
  rintro e w1 ⟨rfl, hb⟩
  have HB := Lib.hid hb
  clear hb
  go_wp2_with fail
  go_ret2
  exact ⟨rfl, HB.out⟩

def zs : List Nat := List.replicate 112 0
def long : Fr := ⟨9, 0, 0, 0, 0, 0, false, zs, []⟩
theorem long_ok : OkF long := by
  constructor <;> first | decide | (intros; rfl) | exact .inr ⟨by decide, rfl⟩
theorem long2 : (layF [long, long]).length = 230 := by decide +kernel
theorem long3 : (layF [long, long, ping]).length = 231 := by decide +kernel

theorem turn8 : splitE [68, 1, 2, 3, 4, 5, 6, 7, 8, 9, 10] = 2 ∧ splitE [64, 1, 2, 3, 4, 5, 6, 7, 8] = 3 ∧ splitE [64, 1, 2, 3, 4, 5, 6, 7, 8, 9] = 0 ∧ splitE [] = 3 := by decide
theorem open9 : Sl.openB 7 (nmN [64, 1, 2, 3, 4, 5, 6, 7, 8, 9] 0) (hdN [64, 1, 2, 3, 4, 5, 6, 7, 8, 9]) (slN [64, 1, 2, 3, 4, 5, 6, 7, 8, 9]) = false := by decide +kernel

theorem chain_alloc {w0 wi wj : World} (o : Obj) (h : Below w0.heap.size w0 wi) (hb : Below (wi.alloc o).heap.size (wi.alloc o) wj) : Below w0.heap.size w0 wj :=
  (h.alloc h.size o).trans (hb.mono (by have := h.size; simp; omega))
theorem arg_below (a b : Int) (v : Value) (w : World) (h : (a, b) = (3, 3) ∨ (a, b) = (-1, -1) ∨ (a, b) = (3, -2)) :
    Calls Tryd.prog 21 #[.int .u64 7, .int .i64 a, .int .i64 b, v] w fun e w' => e = .returned (.tuple #[.slice none 0 0, .int .i64 1]) ∧ Below w.heap.size w w' :=
  (pkLay_arg a b v w h).mono fun e w' ⟨h1, h2⟩ => ⟨h1, h2 ▸ Below.refl _ _⟩
theorem bytes_rd (w : World) (bs : List Nat) (cs : Array Value) (T : TypeId) (n : Nat) (hn : cs.size = n) (h : cs.toList = bv bs) : Rd (w.alloc (.cells cs T)) (w.alloc (.cells cs T)).heap.size (some ⟨w.heap.size, 0, none⟩) n (bv bs) :=
  rd_new _ _ _ _ _ _ _ rfl (by simp) hn h

set_option maxRecDepth 100000 in
set_option maxHeartbeats 4000000 in
theorem pknown_walk (w : World) (hL : laidMetH Tryd.prog laids w) :
    Calls Tryd.prog 7 #[] w fun e w' => e = .returned (.bool true) ∧ Below w.heap.size w w' := by
  have HLd := Lib.hid hL
  obtain ⟨i0, hi, hz0, hz1, hz2⟩ := info_parts infoB
  have hmk := fun W => run_make (P := Tryd.prog) W 24 5 i0 (.int .u8 0) Tryd.underlying24 hi hz0 .i64 .i64 112 112 (by omega) (by omega) (by rw [hz2]; omega) (by omega)
  simp only [hz1, Nat.mul_one, show (112 : Int).toNat = 112 from rfl] at hmk
  have hmz : Hid ((madeCells (Value.int .u8 0).cells 112).toList = bv zs) := by show _ = _; kernel_rfl
  obtain ⟨zc, hzc⟩ : ∃ x, madeCells (Value.int .u8 0).cells 112 = x := ⟨_, rfl⟩
  rw [hzc] at hmk hmz
  have hzs : zc.size = 112 := by rw [← hzc]; exact size_madeCells _ _
  clear hL hi hz0 hz1 hz2 hzc
  go_enter Tryd.func7, Tryd.ntmps7
  go_wp2_with fail
  obtain ⟨wP, hwP⟩ : ∃ x, w.alloc (.cells #[.int .i64 1, .int .i64 0, .int .i64 0, .int .i64 0, .int .i64 0, .int .i64 0, .bool false, .slice none 0 0, .slice none 0 0] 26) = x := ⟨_, rfl⟩
  have HP : Hid (∀ W, Below wP.heap.size wP W → W.cell? ⟨w.heap.size, 0, none⟩ = some (.int .i64 1) ∧ W.cell? ⟨w.heap.size, 1, none⟩ = some (.int .i64 0) ∧ W.cell? ⟨w.heap.size, 2, none⟩ = some (.int .i64 0) ∧ W.cell? ⟨w.heap.size, 3, none⟩ = some (.int .i64 0) ∧ W.cell? ⟨w.heap.size, 4, none⟩ = some (.int .i64 0) ∧ W.cell? ⟨w.heap.size, 5, none⟩ = some (.int .i64 0) ∧ W.cell? ⟨w.heap.size, 6, none⟩ = some (.bool false) ∧ W.cell? ⟨w.heap.size, 7, none⟩ = some (.slice none 0 0) ∧ W.cell? ⟨w.heap.size, 8, none⟩ = some (.slice none 0 0)) := fun W hW => by
    have hh : wP.heap[w.heap.size]? = some (.cells #[.int .i64 1, .int .i64 0, .int .i64 0, .int .i64 0, .int .i64 0, .int .i64 0, .bool false, .slice none 0 0, .slice none 0 0] 26 (0, 0)) := by rw [← hwP]; exact heap_alloc_new _ _
    have hh2 := (hW.block w.heap.size (Array.getElem?_eq_some_iff.1 hh).1).trans hh
    exact ⟨cell_of_row W w.heap.size 0 _ _ _ hh2, cell_of_row W w.heap.size 1 _ _ _ hh2, cell_of_row W w.heap.size 2 _ _ _ hh2, cell_of_row W w.heap.size 3 _ _ _ hh2, cell_of_row W w.heap.size 4 _ _ _ hh2, cell_of_row W w.heap.size 5 _ _ _ hh2, cell_of_row W w.heap.size 6 _ _ _ hh2, cell_of_row W w.heap.size 7 _ _ _ hh2, cell_of_row W w.heap.size 8 _ _ _ hh2⟩
  have HWP : Hid (Below w.heap.size w wP) := by rw [← hwP]; exact (Below.refl _ _).alloc (Nat.le_refl _) _
  rw [hwP]
  clear hwP
  refine (arg_below 3 3 _ _ (by decide)).mono ?_
  rintro e w1 ⟨rfl, hb⟩
  have H1 : Hid (Below wP.heap.size wP w1) := chain_alloc (.cells #[.int .i64 1, .int .i64 0, .int .i64 0, .int .i64 0, .int .i64 0, .int .i64 0, .bool false, .slice none 0 0, .slice none 0 0] 26) (Below.refl wP.heap.size wP) hb
  clear hb
  obtain ⟨p0, p1, p2, p3, p4, p5, p6, p7, p8⟩ := HP.out w1 H1.out
  go_wp2_with fail
  refine (arg_below (-1) (-1) _ _ (by decide)).mono ?_
  rintro e w2 ⟨rfl, hb⟩
  have H2 : Hid (Below wP.heap.size wP w2) := chain_alloc (.cells #[.int .i64 1, .int .i64 0, .int .i64 0, .int .i64 0, .int .i64 0, .int .i64 0, .bool false, .slice none 0 0, .slice none 0 0] 26) H1.out hb
  clear hb p0 p1 p2 p3 p4 p5 p6 p7 p8
  obtain ⟨p0, p1, p2, p3, p4, p5, p6, p7, p8⟩ := HP.out w2 H2.out
  go_wp2_with fail
  refine (arg_below 3 (-2) _ _ (by decide)).mono ?_
  rintro e w3 ⟨rfl, hb⟩
  have H3 : Hid (Below wP.heap.size wP w3) := chain_alloc (.cells #[.int .i64 1, .int .i64 0, .int .i64 0, .int .i64 0, .int .i64 0, .int .i64 0, .bool false, .slice none 0 0, .slice none 0 0] 26) H2.out hb
  clear hb p0 p1 p2 p3 p4 p5 p6 p7 p8
  go_wp2_with fail
  refine (pkLay_bad w3.heap.size _ (heap_alloc_new _ _)).mono ?_
  rintro e w4 ⟨rfl, hb⟩
  have H4 : Hid (Below wP.heap.size wP w4) := chain_alloc (.cells #[.int .i64 0, .int .i64 0, .int .i64 0, .int .i64 0, .int .i64 0, .int .i64 0, .bool false, .slice none 0 0, .slice none 0 0] 26) H3.out hb
  clear hb
  go_wp2_with fail
  obtain ⟨wL, hwL⟩ : ∃ x, (w4.alloc (.cells zc 5)).alloc (.cells #[.int .i64 9, .int .i64 0, .int .i64 0, .int .i64 0, .int .i64 0, .int .i64 0, .bool false, .slice (some ⟨w4.heap.size, 0, none⟩) 112 112, .slice none 0 0] 26) = x := ⟨_, rfl⟩
  have hl4 : Hid (Below w4.heap.size w4 wL) := by rw [← hwL]; exact ((Below.refl _ _).alloc (Nat.le_refl _) _).alloc (by simp) _
  have HLL : Hid (∀ W, Below wL.heap.size wL W → W.cell? ⟨w4.heap.size + 1, 0, none⟩ = some (.int .i64 9) ∧ W.cell? ⟨w4.heap.size + 1, 1, none⟩ = some (.int .i64 0) ∧ W.cell? ⟨w4.heap.size + 1, 2, none⟩ = some (.int .i64 0) ∧ W.cell? ⟨w4.heap.size + 1, 3, none⟩ = some (.int .i64 0) ∧ W.cell? ⟨w4.heap.size + 1, 4, none⟩ = some (.int .i64 0) ∧ W.cell? ⟨w4.heap.size + 1, 5, none⟩ = some (.int .i64 0) ∧ W.cell? ⟨w4.heap.size + 1, 6, none⟩ = some (.bool false) ∧ W.cell? ⟨w4.heap.size + 1, 7, none⟩ = some (.slice (some ⟨w4.heap.size, 0, none⟩) 112 112) ∧ W.cell? ⟨w4.heap.size + 1, 8, none⟩ = some (.slice none 0 0)) := fun W hW => by
    have hh : wL.heap[w4.heap.size + 1]? = some (.cells #[.int .i64 9, .int .i64 0, .int .i64 0, .int .i64 0, .int .i64 0, .int .i64 0, .bool false, .slice (some ⟨w4.heap.size, 0, none⟩) 112 112, .slice none 0 0] 26 (0, 0)) := by
      rw [← hwL]
      have := heap_alloc_new (w4.alloc (.cells zc 5)) (.cells #[.int .i64 9, .int .i64 0, .int .i64 0, .int .i64 0, .int .i64 0, .int .i64 0, .bool false, .slice (some ⟨w4.heap.size, 0, none⟩) 112 112, .slice none 0 0] 26)
      simpa using this
    have hh2 := (hW.block (w4.heap.size + 1) (Array.getElem?_eq_some_iff.1 hh).1).trans hh
    exact ⟨cell_of_row W (w4.heap.size + 1) 0 _ _ _ hh2, cell_of_row W (w4.heap.size + 1) 1 _ _ _ hh2, cell_of_row W (w4.heap.size + 1) 2 _ _ _ hh2, cell_of_row W (w4.heap.size + 1) 3 _ _ _ hh2, cell_of_row W (w4.heap.size + 1) 4 _ _ _ hh2, cell_of_row W (w4.heap.size + 1) 5 _ _ _ hh2, cell_of_row W (w4.heap.size + 1) 6 _ _ _ hh2, cell_of_row W (w4.heap.size + 1) 7 _ _ _ hh2, cell_of_row W (w4.heap.size + 1) 8 _ _ _ hh2⟩
  have HZ : Hid (∀ W, Below wL.heap.size wL W → FrC W long [.int .i64 9, .int .i64 0, .int .i64 0, .int .i64 0, .int .i64 0, .int .i64 0, .bool false, .slice (some ⟨w4.heap.size, 0, none⟩) 112 112, .slice none 0 0]) := fun W hW => by
    have h1 : wL.ownsRow 0 5 1 (.slice (some ⟨w4.heap.size, 0, none⟩) 112 112) 112 (bv zs) := by
      rw [← hwL, ← hmz.out]
      exact (own_new w4 zc 5 1 112 w4.heap.size 0 rfl (by rw [hzs]) (by unfold maxLen; omega) (Nat.zero_le _)).alloc _
    exact ⟨_, _, _, _, _, _, rfl, by decide, rfl, own_below h1 hW, own_nil _ _ _ _⟩
  have HLP : Hid (Below wP.heap.size wP wL) := H4.out.trans (hl4.out.mono H4.out.size)
  have hsz : w4.heap.size + 1 + 1 = wL.heap.size := by rw [← hwL]; simp
  rw [hwL, hsz]
  clear hwL hsz
  have HLA := pkLay_any 7 0 (-1) [long, long] (some ⟨wL.heap.size, 0, none⟩) 2 2 (wL.alloc (.cells #[.int .i64 9, .int .i64 0, .int .i64 0, .int .i64 0, .int .i64 0, .int .i64 0, .bool false, .slice (some ⟨w4.heap.size, 0, none⟩) 112 112, .slice none 0 0, .int .i64 9, .int .i64 0, .int .i64 0, .int .i64 0, .int .i64 0, .int .i64 0, .bool false, .slice (some ⟨w4.heap.size, 0, none⟩) 112 112, .slice none 0 0] 26)) ((tabs_of HLd.out (HWP.out.trans (HLP.out.mono HWP.out.size))).alloc _)
    ⟨rfl, Nat.le_refl _, _, rd_new _ _ _ _ _ _ _ rfl (by simp) rfl rfl, [.int .i64 9, .int .i64 0, .int .i64 0, .int .i64 0, .int .i64 0, .int .i64 0, .bool false, .slice (some ⟨w4.heap.size, 0, none⟩) 112 112, .slice none 0 0], [.int .i64 9, .int .i64 0, .int .i64 0, .int .i64 0, .int .i64 0, .int .i64 0, .bool false, .slice (some ⟨w4.heap.size, 0, none⟩) 112 112, .slice none 0 0], rfl, HZ.out _ ((Below.refl _ _).alloc (Nat.le_refl _) _), [.int .i64 9, .int .i64 0, .int .i64 0, .int .i64 0, .int .i64 0, .int .i64 0, .bool false, .slice (some ⟨w4.heap.size, 0, none⟩) 112 112, .slice none 0 0], [], rfl, HZ.out _ ((Below.refl _ _).alloc (Nat.le_refl _) _), rfl⟩
    (by intro f hf; simp at hf; rw [hf]; exact long_ok) (by omega) (by decide) (by decide) (by decide) (by decide)
  have hk1 : kN 0 (-1) = 1 := by decide
  have hk2 : kN 5 0 = 1 := by decide
  have hk3 : kN 1099511627776 0 = 4 := by decide
  unfold PkP at HLA
  rw [long2, hk1] at HLA
  obtain ⟨pk, hpk⟩ : ∃ x, Hid (packN 7 0 (-1) (layF [long, long]) = x) := ⟨_, rfl⟩
  rw [hpk.out] at HLA
  have HLA := Lib.hid HLA
  refine HLA.out.mono ?_
  rintro e w5 ⟨hb, h1, _⟩
  obtain ⟨Ae, ce, he, hoe⟩ := h1 (by decide)
  simp only [Nat.reduceAdd] at he hoe
  subst he
  have HL5 : Hid (Below wL.heap.size wL w5) := chain_alloc (.cells #[.int .i64 9, .int .i64 0, .int .i64 0, .int .i64 0, .int .i64 0, .int .i64 0, .bool false, .slice (some ⟨w4.heap.size, 0, none⟩) 112 112, .slice none 0 0, .int .i64 9, .int .i64 0, .int .i64 0, .int .i64 0, .int .i64 0, .int .i64 0, .bool false, .slice (some ⟨w4.heap.size, 0, none⟩) 112 112, .slice none 0 0] 26) (Below.refl _ _) hb
  have H5 : Hid (Below wP.heap.size wP w5) := HLP.out.trans (HL5.out.mono HLP.out.size)
  obtain ⟨_, _, ev, hce, _, _, hre⟩ := own_form hoe
  simp only [Value.slice.injEq] at ev
  obtain ⟨rfl, _, rfl⟩ := ev
  rw [Nat.mul_one] at hre
  have HRE := Lib.hid hre
  have HCE := Lib.hid hce
  clear hb h1 hoe hre hce HLA
  obtain ⟨p0, p1, p2, p3, p4, p5, p6, p7, p8⟩ := HP.out w5 H5.out
  obtain ⟨q0, q1, q2, q3, q4, q5, q6, q7, q8⟩ := HLL.out w5 HL5.out
  go_wp2_with fail
  have HLB := pkLay_any 7 0 (-1) [long, long, ping] (some ⟨w5.heap.size, 0, none⟩) 3 3 (w5.alloc (.cells #[.int .i64 9, .int .i64 0, .int .i64 0, .int .i64 0, .int .i64 0, .int .i64 0, .bool false, .slice (some ⟨w4.heap.size, 0, none⟩) 112 112, .slice none 0 0, .int .i64 9, .int .i64 0, .int .i64 0, .int .i64 0, .int .i64 0, .int .i64 0, .bool false, .slice (some ⟨w4.heap.size, 0, none⟩) 112 112, .slice none 0 0, .int .i64 1, .int .i64 0, .int .i64 0, .int .i64 0, .int .i64 0, .int .i64 0, .bool false, .slice none 0 0, .slice none 0 0] 26)) ((tabs_of HLd.out (HWP.out.trans (H5.out.mono HWP.out.size))).alloc _)
    ⟨rfl, Nat.le_refl _, _, rd_new _ _ _ _ _ _ _ rfl (by simp) rfl rfl, [.int .i64 9, .int .i64 0, .int .i64 0, .int .i64 0, .int .i64 0, .int .i64 0, .bool false, .slice (some ⟨w4.heap.size, 0, none⟩) 112 112, .slice none 0 0], [.int .i64 9, .int .i64 0, .int .i64 0, .int .i64 0, .int .i64 0, .int .i64 0, .bool false, .slice (some ⟨w4.heap.size, 0, none⟩) 112 112, .slice none 0 0, .int .i64 1, .int .i64 0, .int .i64 0, .int .i64 0, .int .i64 0, .int .i64 0, .bool false, .slice none 0 0, .slice none 0 0], rfl, HZ.out _ (HL5.out.alloc HL5.out.size _), [.int .i64 9, .int .i64 0, .int .i64 0, .int .i64 0, .int .i64 0, .int .i64 0, .bool false, .slice (some ⟨w4.heap.size, 0, none⟩) 112 112, .slice none 0 0], [.int .i64 1, .int .i64 0, .int .i64 0, .int .i64 0, .int .i64 0, .int .i64 0, .bool false, .slice none 0 0, .slice none 0 0], rfl, HZ.out _ (HL5.out.alloc HL5.out.size _), [.int .i64 1, .int .i64 0, .int .i64 0, .int .i64 0, .int .i64 0, .int .i64 0, .bool false, .slice none 0 0, .slice none 0 0], [], rfl, ping_cells _, rfl⟩
    (by intro f hf; simp at hf; rcases hf with rfl | rfl; exact long_ok; exact ping_ok) (by omega) (by decide) (by decide) (by decide) (by decide)
  unfold PkP at HLB
  rw [long3, hk1] at HLB
  refine HLB.mono ?_
  rintro e w6 ⟨hb, _, h2⟩
  have he := h2 (by decide)
  subst he
  have H56 : Hid (Below w5.heap.size w5 w6) := chain_alloc (.cells #[.int .i64 9, .int .i64 0, .int .i64 0, .int .i64 0, .int .i64 0, .int .i64 0, .bool false, .slice (some ⟨w4.heap.size, 0, none⟩) 112 112, .slice none 0 0, .int .i64 9, .int .i64 0, .int .i64 0, .int .i64 0, .int .i64 0, .int .i64 0, .bool false, .slice (some ⟨w4.heap.size, 0, none⟩) 112 112, .slice none 0 0, .int .i64 1, .int .i64 0, .int .i64 0, .int .i64 0, .int .i64 0, .int .i64 0, .bool false, .slice none 0 0, .slice none 0 0] 26) (Below.refl _ _) hb
  have H6 : Hid (Below wP.heap.size wP w6) := H5.out.trans (H56.out.mono H5.out.size)
  clear hb h2 HLB p0 p1 p2 p3 p4 p5 p6 p7 p8 q0 q1 q2 q3 q4 q5 q6 q7 q8
  go_wp2_with fail
  have HR := pkRead_any 7 0 [68, 1, 2, 3, 4, 5, 6, 7, 8, 9, 10] (some ⟨w6.heap.size, 0, none⟩) 11 (w6.alloc (.cells #[.int .u8 68, .int .u8 1, .int .u8 2, .int .u8 3, .int .u8 4, .int .u8 5, .int .u8 6, .int .u8 7, .int .u8 8, .int .u8 9, .int .u8 10] 5)) (bytes_rd _ _ _ _ _ rfl rfl) (by decide) (by decide) (by decide) (by decide)
  refine HR.mono ?_
  rintro e w7 ⟨hb, r1, r2, r3, r4⟩
  have he := r1 (by rw [turn8.1]; decide)
  rw [turn8.1] at he
  subst he
  have H7 : Hid (Below wP.heap.size wP w7) := chain_alloc (.cells #[.int .u8 68, .int .u8 1, .int .u8 2, .int .u8 3, .int .u8 4, .int .u8 5, .int .u8 6, .int .u8 7, .int .u8 8, .int .u8 9, .int .u8 10] 5) H6.out hb
  have H57 : Hid (Below w5.heap.size w5 w7) := chain_alloc (.cells #[.int .u8 68, .int .u8 1, .int .u8 2, .int .u8 3, .int .u8 4, .int .u8 5, .int .u8 6, .int .u8 7, .int .u8 8, .int .u8 9, .int .u8 10] 5) H56.out hb
  clear hb r1 r2 r3 r4 HR
  go_wp2_with fail
  have HR := pkRead_any 7 0 [64, 1, 2, 3, 4, 5, 6, 7, 8] (some ⟨w7.heap.size, 0, none⟩) 9 (w7.alloc (.cells #[.int .u8 64, .int .u8 1, .int .u8 2, .int .u8 3, .int .u8 4, .int .u8 5, .int .u8 6, .int .u8 7, .int .u8 8] 5)) (bytes_rd _ _ _ _ _ rfl rfl) (by decide) (by decide) (by decide) (by decide)
  refine HR.mono ?_
  rintro e w8 ⟨hb, r1, r2, r3, r4⟩
  have he := r1 (by rw [turn8.2.1]; decide)
  rw [turn8.2.1] at he
  subst he
  have H8 : Hid (Below wP.heap.size wP w8) := chain_alloc (.cells #[.int .u8 64, .int .u8 1, .int .u8 2, .int .u8 3, .int .u8 4, .int .u8 5, .int .u8 6, .int .u8 7, .int .u8 8] 5) H7.out hb
  have H58 : Hid (Below w5.heap.size w5 w8) := chain_alloc (.cells #[.int .u8 64, .int .u8 1, .int .u8 2, .int .u8 3, .int .u8 4, .int .u8 5, .int .u8 6, .int .u8 7, .int .u8 8] 5) H57.out hb
  clear hb r1 r2 r3 r4 HR
  go_wp2_with fail
  have HR := pkRead_any 7 0 [64, 1, 2, 3, 4, 5, 6, 7, 8, 9] (some ⟨w8.heap.size, 0, none⟩) 10 (w8.alloc (.cells #[.int .u8 64, .int .u8 1, .int .u8 2, .int .u8 3, .int .u8 4, .int .u8 5, .int .u8 6, .int .u8 7, .int .u8 8, .int .u8 9] 5)) (bytes_rd _ _ _ _ _ rfl rfl) (by decide) (by decide) (by decide) (by decide)
  refine HR.mono ?_
  rintro e w9 ⟨hb, r1, r2, r3, r4⟩
  have he := r2 turn8.2.2.1 open9
  subst he
  have H9 : Hid (Below wP.heap.size wP w9) := chain_alloc (.cells #[.int .u8 64, .int .u8 1, .int .u8 2, .int .u8 3, .int .u8 4, .int .u8 5, .int .u8 6, .int .u8 7, .int .u8 8, .int .u8 9] 5) H8.out hb
  have H59 : Hid (Below w5.heap.size w5 w9) := chain_alloc (.cells #[.int .u8 64, .int .u8 1, .int .u8 2, .int .u8 3, .int .u8 4, .int .u8 5, .int .u8 6, .int .u8 7, .int .u8 8, .int .u8 9] 5) H58.out hb
  clear hb r1 r2 r3 r4 HR
  go_wp2_with fail
  have HR := pkRead_any 7 0 [] none 0 w9 (Rd.nil _ _ _) (by decide) (by decide) (by decide) (by decide)
  refine HR.mono ?_
  rintro e w10 ⟨hb, r1, r2, r3, r4⟩
  have he := r1 (by rw [turn8.2.2.2]; decide)
  rw [turn8.2.2.2] at he
  subst he
  have H10 : Hid (Below wP.heap.size wP w10) := H9.out.trans (hb.mono H9.out.size)
  have H510 : Hid (Below w5.heap.size w5 w10) := H59.out.trans (hb.mono H59.out.size)
  clear hb r1 r2 r3 r4 HR
  go_wp2_with fail
  have HR := pkRead_other 7 8 0 (-1) 0 (layF [long, long]) Ae ce w10 (by intro z hz; obtain ⟨f, hf, hz⟩ := List.mem_flatMap.1 hz; simp at hf; subst hf; exact encF_lt long_ok z hz) (by decide) (by decide) (by decide) (by rw [hk1]; decide) (by rw [long2, hk1, hpk.out]; exact (HRE.out.below H510.out (Nat.le_refl _)).more H510.out.size) (by rw [long2, hk1]; exact HCE.out) (by rw [long2]; decide)
  rw [long2, hk1] at HR
  simp only [Nat.reduceAdd] at HR
  have HR := Lib.hid HR
  refine HR.out.mono ?_
  rintro e w11 ⟨rfl, hb⟩
  have H11 : Hid (Below wP.heap.size wP w11) := H10.out.trans (hb.mono H10.out.size)
  clear hb HR
  go_wp2_with fail
  have HR := pkLay_any 7 5 0 [] none 0 0 w11 (tabs_of HLd.out (HWP.out.trans (H11.out.mono HWP.out.size))) ⟨rfl, Nat.le_refl _, [], Rd.nil _ _ _, rfl⟩ (by intro f hf; cases hf) (by omega) (by decide) (by decide) (by decide) (by decide)
  unfold PkP at HR
  rw [hk2] at HR
  refine HR.mono ?_
  rintro e w12 ⟨hb, h1, _⟩
  obtain ⟨Af, cf, he, hof⟩ := h1 (by decide)
  simp only [Nat.reduceAdd, List.length_nil] at he hof
  subst he
  have H12 : Hid (Below wP.heap.size wP w12) := H11.out.trans (hb.mono H11.out.size)
  obtain ⟨_, _, ev, hcf, _, _, hrf⟩ := own_form hof
  simp only [Value.slice.injEq] at ev
  obtain ⟨rfl, _, rfl⟩ := ev
  rw [Nat.mul_one] at hrf
  have HRF := Lib.hid hrf
  have HCF := Lib.hid hcf
  clear hb h1 hof hrf hcf HR
  go_wp2_with fail
  have HR := pkRead_laid 7 5 0 5 [] Af cf w12 (by intro f hf; cases hf) (by decide) (by rw [hk2]; decide) (by rw [hk2]; exact HRF.out) (by rw [hk2]; exact HCF.out) (by decide)
  rw [hk2] at HR
  simp only [Nat.reduceAdd, List.length_nil, show (layF []).length = 0 from rfl] at HR
  refine HR.mono ?_
  rintro e w13 ⟨hb, h1, _⟩
  have he := h1 (by trivial)
  subst he
  have H13 : Hid (Below wP.heap.size wP w13) := H12.out.trans (hb.mono H12.out.size)
  have HW13 : Hid (Below w.heap.size w w13) := HWP.out.trans (H13.out.mono HWP.out.size)
  clear hb h1 HR
  go_wp2_with fail
  refine (known6_any HLd.out HW13.out).mono ?_
  rintro e w14 ⟨rfl, hb⟩
  have HW14 : Hid (Below w.heap.size w w14) := HW13.out.trans (hb.mono HW13.out.size)
  clear hb
  go_wp2_with fail
  have HR := room_any 1099511627776 0 w14 (by omega) (by omega)
  rw [hk3] at HR
  refine HR.mono ?_
  rintro e w' ⟨rfl, rfl⟩
  go_wp2_with fail
  go_ret
  exact ⟨ret_bool (by simp), HW14.out⟩
end Go.Proofs.YtkphmgfjlbdpgaaDoor
