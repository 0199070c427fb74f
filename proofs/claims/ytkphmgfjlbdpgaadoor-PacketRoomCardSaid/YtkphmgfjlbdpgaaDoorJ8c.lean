/- Joined texts. FrameBack: the walk. Conditions: as the theorem lists them. FrameCut: the walk. Conditions: as the theorem lists them. -/
import Derived.Test.YtkphmgfjlbdpgaaDoorJ8b
import Derived.Test.YtkphmgfjlbdpgaaDoorJ8
import Derived.Test.YtkphmgfjlbdpgaaDoorJ5b
import Derived.Test.YtkphmgfjlbdpgaaDoorJ8a
set_option linter.unusedSimpArgs false
set_option linter.unusedVariables false

namespace Go.Proofs.YtkphmgfjlbdpgaaDoor
open Go Go.RowKit

theorem tabs_of {W w : World} (h : laidMetH Tryd.prog laids W) (hb : Below W.heap.size W w) : Tabs w := by
  have c2 := fun i hi => (tabs h).2.cell (g := 1) (by kernel_rfl) i hi
  have key : ∀ (i : Nat) (u : Value), W.cell? ⟨1, i, none⟩ = some u → w.cell? ⟨1, i, none⟩ = some u := fun i u hu => (hb.cell (p := ⟨1, i, none⟩) (block_lt_of_cell hu)).trans hu
  exact ⟨key _ _ (c2 0 (by decide)), key _ _ (c2 1 (by decide)), key _ _ (c2 3 (by decide)), key _ _ (c2 7 (by decide))⟩

theorem Frs.take {w : World} {A : Option Addr} {n c : Nat} {fs : List Fr} (h : Frs w A n c fs) (q : Nat) (hq : q ≤ n) : Frs w A q c (fs.take q) := by
  obtain ⟨h1, h2, cells, h3, h4⟩ := h
  exact ⟨by rw [List.length_take]; omega, by omega, cells.take (q * 9), h3.head (q * 9) (by omega), h4.take q⟩
theorem Frs.drop {w : World} {A : Option Addr} {n c : Nat} {fs : List Fr} (h : Frs w A n c fs) (q : Nat) (hq : q ≤ n) (A' : Option Addr) (c' : Nat) (hA : A' = if c = q then A else A.map (·.add (q * 9))) (hc : c' = c - q) : Frs w A' (n - q) c' (fs.drop q) := by
  obtain ⟨h1, h2, cells, h3, h4⟩ := h
  rw [hA]
  exact ⟨by rw [List.length_drop]; omega, by omega, cells.drop (q * 9), h3.tail9 q hq h2, h4.drop q⟩
theorem layF_app (a b : List Fr) : layF (a ++ b) = layF a ++ layF b := by simp [layF]
theorem strOf_app (a b : List Nat) : strOf a ++ strOf b = strOf (a ++ b) := by
  apply ByteArray.ext
  simp [strOf]

set_option maxRecDepth 100000 in
set_option maxHeartbeats 4000000 in
theorem back_walk (A : Option Addr) (n c : Nat) (rs : List Rw) (at_ : Int) (w : World) (hL : laidMetH Tryd.prog laids w) (hr : IsRaws w A c n rs) :
    Calls Tryd.prog 4 #[.slice A n c, .int .i64 at_] w fun e w' => e = .returned (.bool true) ∧ Below w.heap.size w w' := by
  have HLd := Lib.hid hL
  have HRi := Lib.hid (hright_any 8 (by decide) rs A n c w hr)
  clear hL hr
  go_enter Tryd.func4, Tryd.ntmps4
  go_wp2_with fail
  refine HRi.out.mono ?_
  rintro e w1 ⟨A1, n1, c1, fs, rfl, hfl, hn8, hok, hown, hbw⟩
  have HFL := Lib.hid hfl
  have HOK := Lib.hid hok
  have HF1 := Lib.hid (hown.frs hfl)
  have HB1 := Lib.hid hbw
  have hci : (n1 : Int) ≤ (c1 : Int) := by have := HF1.out.2.1; omega
  have hni : (n1 : Int) ≤ 8 := by omega
  clear hfl hok hown hbw HRi
  have HLA := Lib.hid (lay_ok fs A1 n1 c1 w1 (tabs_of HLd.out HB1.out) HF1.out HOK.out (by omega))
  go_wp2_with fail
  refine HLA.out.mono ?_
  rintro e w2 ⟨Ao, no, co, rfl, hlo, hoo, hb⟩
  have HLO := Lib.hid hlo
  have HOO := Lib.hid hoo
  have HB2 : Hid (Below w1.heap.size w1 w2) := hb
  have hl8 : (layF fs).length ≤ 312 * 8 := Nat.le_trans (layF_len HOK.out) (Nat.mul_le_mul_left _ (by have := HFL.out; omega))
  have HRE : Hid (Calls Tryd.prog 13 #[.slice Ao no co] w2 fun e w' => ∃ Ag cg, e = .returned (.tuple #[.slice Ag n1 cg, .int .i64 0]) ∧ FrsOwn w' w2.heap.size (.slice Ag n1 cg) (fs.map bare) ∧ Below w2.heap.size w2 w') := by
    obtain ⟨_, _, ev, hnc, _, _, hrd⟩ := own_form HOO.out
    simp only [Value.slice.injEq] at ev
    obtain ⟨rfl, _, rfl⟩ := ev
    rw [Nat.mul_one] at hrd
    have hrd' : Rd w2 w2.heap.size Ao (layF fs).length (bv (layF fs)) := by rw [HLO.out]; exact hrd
    have hlt : ∀ x ∈ layF fs, x < 256 := fun x hx => by
      obtain ⟨f, hf, hx⟩ := List.mem_flatMap.1 hx
      exact encF_lt (HOK.out f hf) x hx
    have := read_ok (layF fs) Ao co w2 hrd' hlt (by rw [HLO.out]; exact hnc) (by omega)
    rw [read_enc fs _ HOK.out (Nat.le_refl _), HLO.out] at this
    refine this.mono ?_
    rintro e w' ⟨h1, _, h3⟩
    obtain ⟨Ag, cg, he, ho⟩ := h1 rfl
    simp only [List.length_map] at he ho
    rw [HFL.out] at he ho
    exact ⟨Ag, cg, he, ho, h3⟩
  clear hlo hoo hb HLA
  go_wp2_with fail
  refine HRE.out.mono ?_
  rintro e w3 ⟨Ag, cg, rfl, hog, hb⟩
  have HOG := Lib.hid (hog.frs (by rw [List.length_map]; exact HFL.out))
  have HB3 : Hid (Below w1.heap.size w1 w3) := HB2.out.trans (hb.mono HB2.out.size)
  have HO3 : Hid (w3.ownsRow w1.heap.size 5 1 (.slice Ao no co) no (bv (layF fs))) := own_below HOO.out hb
  clear hog hb HRE hl8
  have HPK := Lib.hid (fun W => pick_any at_ ((n1 : Int) + 1) W (by omega) (by omega))
  have hq0 := Int.emod_nonneg at_ (show ((n1 : Int) + 1) ≠ 0 by omega)
  have hq1 := Int.emod_lt_of_pos at_ (show 0 < ((n1 : Int) + 1) by omega)
  obtain ⟨q, hq⟩ : ∃ q : Nat, at_ % ((n1 : Int) + 1) = (q : Int) := ⟨(at_ % ((n1 : Int) + 1)).toNat, by omega⟩
  rw [hq] at HPK hq0 hq1
  have HQ := Lib.hid hq
  clear hq
  have hqn : q ≤ n1 := by omega
  have hqi : (q : Int) ≤ (n1 : Int) := by omega
  have hqc : (q : Int) ≤ (c1 : Int) := by omega
  clear hq0 hq1
  go_wp2_with fail
  refine (HPK.out _).mono ?_
  rintro e w' ⟨rfl, hw⟩
  subst hw
  have HLB := Lib.hid (lay_ok (fs.take q) A1 q c1 w3 (tabs_of HLd.out (HB1.out.trans (HB3.out.mono HB1.out.size))) ((HF1.out.below HB3.out).take q hqn) (fun f hf => HOK.out f (List.mem_of_mem_take hf)) (by omega))
  go_wp2_with fail
  refine HLB.out.mono ?_
  rintro e w4 ⟨Ap, np, cp, rfl, hlp, hop, hb⟩
  have HLP := Lib.hid hlp
  have HOP := Lib.hid hop
  have HB4 : Hid (Below w1.heap.size w1 w4) := HB3.out.trans (hb.mono HB3.out.size)
  have HO4 : Hid (w4.ownsRow w1.heap.size 5 1 (.slice Ao no co) no (bv (layF fs))) := own_below HO3.out hb
  have HG4 : Hid (Frs w4 Ag n1 cg (fs.map bare)) := HOG.out.below hb
  clear hlp hop hb HLB
  have HLC : Hid (∀ A' c', (A' = if c1 = q then A1 else A1.map (·.add (q * 9))) → c' = c1 - q → Calls Tryd.prog 12 #[.slice A' (n1 - q) c'] w4 (LayP (fs.drop q) w4)) := fun A' c' hA hc => lay_ok (fs.drop q) A' (n1 - q) c' w4 (tabs_of HLd.out (HB1.out.trans (HB4.out.mono HB1.out.size))) ((HF1.out.below HB4.out).drop q hqn A' c' hA hc) (fun f hf => HOK.out f (List.mem_of_mem_drop hf)) (by omega)
  have hsp : ∀ f ∈ fs, f.spans.length ≤ 16 := fun f hf => by obtain ⟨m, hm, hs⟩ := (HOK.out f hf).sps; have := hs.1; omega
  have hbb : fs.map bare = (fs.map bare).map bare := by rw [List.map_map]; rfl
  have hsp2 : ∀ f ∈ fs.map bare, f.spans.length ≤ 16 := fun f hf => by
    obtain ⟨g, hg, rfl⟩ := List.mem_map.1 hf
    exact hsp g hg
  have HSA : Hid (∀ W, Below w4.heap.size w4 W → (Calls Tryd.prog 15 #[.slice A1 n1 c1, .slice Ag n1 cg] W fun e w' => e = .returned (.bool true) ∧ Below W.heap.size W w') ∧ (Calls Tryd.prog 15 #[.slice Ag n1 cg, .slice A1 n1 c1] W fun e w' => e = .returned (.bool true) ∧ Below W.heap.size W w')) := fun W hW =>
    ⟨same_ok fs (fs.map bare) hbb A1 Ag n1 c1 cg W ((HF1.out.below HB4.out).below hW) (HG4.out.below hW) (by omega) hsp, same_ok (fs.map bare) fs hbb.symm Ag A1 n1 cg c1 W (HG4.out.below hW) ((HF1.out.below HB4.out).below hW) (by omega) hsp2⟩
  clear hsp hbb hsp2
  have hcq2 : q = c1 ∨ ¬ c1 = q := by omega
  rcases hcq2 with rfl | hcq
  all_goals
    go_wp2_with fail
    obtain ⟨T, hT⟩ : ∃ T, Hid (Option.map (fun x => x.add (q * 9)) A1 = T) := ⟨_, rfl⟩
    try rw [hT.out]
    refine (HLC.out _ _ (by first | (rw [if_neg hcq]; exact hT.out.symm) | simp) (by omega)).mono ?_
    clear hT
    rintro e w5 ⟨Aq, nq, cq, rfl, hlq, hoq, hb⟩
    have HB5 : Hid (Below w1.heap.size w1 w5) := HB4.out.trans (hb.mono HB4.out.size)
    have HO5 : Hid (w5.ownsRow w1.heap.size 5 1 (.slice Ao no co) no (bv (layF fs))) := own_below HO4.out hb
    have HP5 : Hid (w5.ownsRow w3.heap.size 5 1 (.slice Ap np cp) np (bv (layF (fs.take q)))) := own_below HOP.out hb
    have HQ5 := Lib.hid hoq
    have H45 := Lib.hid hb
    have HCV : Hid (∀ W, Below w5.heap.size w5 W → (convert 24 9 (.slice Ap np cp)).run Tryd.prog W = .ok (.string (strOf (layF (fs.take q)))) W ∧ (convert 24 9 (.slice Aq nq cq)).run Tryd.prog W = .ok (.string (strOf (layF (fs.drop q)))) W ∧ (convert 24 9 (.slice Ao no co)).run Tryd.prog W = .ok (.string (strOf (layF fs))) W) := fun W hW => by
      have rd : ∀ {base n : Nat} {A : Option Addr} {c : Nat} {l : List Nat}, w5.ownsRow base 5 1 (.slice A n c) n (bv l) → Rd W w5.heap.size A n (bv l) := fun h => by
        obtain ⟨_, _, ev, _, _, _, r⟩ := own_form h
        simp only [Value.slice.injEq] at ev
        obtain ⟨rfl, _, rfl⟩ := ev
        rw [Nat.mul_one] at r
        exact r.below hW (Nat.le_refl _)
      exact ⟨conv_run W 24 9 5 Tryd.underlying24 Tryd.underlying5 Tryd.underlying9 _ _ _ _ _ (rd HP5.out), conv_run W 24 9 5 Tryd.underlying24 Tryd.underlying5 Tryd.underlying9 _ _ _ _ _ (rd HQ5.out), conv_run W 24 9 5 Tryd.underlying24 Tryd.underlying5 Tryd.underlying9 _ _ _ _ _ (rd HO5.out)⟩
    clear hlq hoq hb HLC
    go_wp2_with fail
    go_loopw [15, 51] (fun s i wr => ∃ (k m : Nat), k ≤ n1 ∧ m ≤ 2496 ∧ i = .int .i64 k ∧ s = .int .i64 m ∧ Hid (m = (layF (fs.take k)).length ∧ Below w5.heap.size w5 wr)) (fun _ i _ => n1 - (intOf i).toNat)
    case atStart => exact ⟨0, 0, Nat.zero_le _, Nat.zero_le _, rfl, rfl, rfl, Below.refl _ _⟩
    case round =>
      obtain ⟨k, m, hk, hm, rfl, rfl, HK⟩ := hrel
      have HB6 : Hid (Below w1.heap.size w1 wr) := HB5.out.trans (HK.out.2.mono HB5.out.size)
      by_cases hlt : k < n1
      · have hlti : (k : Int) < (n1 : Int) := by omega
        obtain ⟨b, off, f, A2, n2, c2, A3, n3, c3, hA, hbl, hf, hfc, hcell⟩ := HF1.out.get k hlt
        subst hA
        have hof := HOK.out f (List.mem_of_getElem? hf)
        have hn2 : n2 ≤ 120 := by have := hof.data.1; have := hfc.parts.1; omega
        have hn3 : n3 ≤ 8 := by obtain ⟨mm, h1, h2⟩ := hof.sps; have := h2.1; have := hfc.parts.2.1; omega
        have HRI : Hid (∀ W, Below w1.heap.size w1 W → Calls Tryd.prog 18 #[.agg #[.int .i64 f.k, .int .i64 f.id, .int .i64 f.off, .int .i64 f.a, .int .i64 f.b, .int .i64 f.note, .bool f.fin, .slice A2 n2 c2, .slice A3 n3 c3]] W fun e w' => e = .returned (.bool true) ∧ Below W.heap.size W w') := fun W hW => by
          have h := right_any f W.heap.size A2 n2 c2 A3 n3 c3 W (hfc.below hW).isFr (Nat.le_refl _) (by omega) (by omega)
          rw [right_ok hof] at h
          exact h
        have HSZ : Hid (∀ W, Below w1.heap.size w1 W → Calls Tryd.prog 16 #[.agg #[.int .i64 f.k, .int .i64 f.id, .int .i64 f.off, .int .i64 f.a, .int .i64 f.b, .int .i64 f.note, .bool f.fin, .slice A2 n2 c2, .slice A3 n3 c3]] W fun e w' => e = .returned (.int .i64 ((encF f).length : Int)) ∧ Below W.heap.size W w') := fun W hW => size_ok_f f A2 n2 c2 A3 n3 c3 W (hfc.below hW).isFr hof
        obtain ⟨z, hz⟩ : ∃ z, Hid ((encF f).length = z) := ⟨_, rfl⟩
        rw [hz.out] at HSZ
        have hz312 : z ≤ 312 := by rw [← hz.out]; exact encF_len hof
        have hsn : Hid ((layF (fs.take (k + 1))).length = m + z) := by show _ = _; rw [layF_snoc fs k f hf, List.length_append, ← HK.out.1, hz.out]
        have hmz : m + z ≤ 2496 := by
          rw [← hsn.out]
          have h1 := layF_len (fs := fs.take (k + 1)) (fun g hg => HOK.out g (List.mem_of_mem_take hg))
          have h2 : (fs.take (k + 1)).length ≤ 8 := by rw [List.length_take]; have := HFL.out; omega
          omega
        have cc : ∀ j, wr.cell? ⟨b, off + k * 9 + j, none⟩ = w1.cell? ⟨b, off + k * 9 + j, none⟩ := fun j => HB6.out.cell (p := ⟨b, off + k * 9 + j, none⟩) hbl
        have g0 : wr.cell? ⟨b, off + k * 9, none⟩ = some (.int .i64 f.k) := (cc 0).trans (hcell 0 _ rfl)
        have g1 : wr.cell? ⟨b, off + k * 9 + 1, none⟩ = some (.int .i64 f.id) := (cc 1).trans (hcell 1 _ rfl)
        have g2 : wr.cell? ⟨b, off + k * 9 + 2, none⟩ = some (.int .i64 f.off) := (cc 2).trans (hcell 2 _ rfl)
        have g3 : wr.cell? ⟨b, off + k * 9 + 3, none⟩ = some (.int .i64 f.a) := (cc 3).trans (hcell 3 _ rfl)
        have g4 : wr.cell? ⟨b, off + k * 9 + 4, none⟩ = some (.int .i64 f.b) := (cc 4).trans (hcell 4 _ rfl)
        have g5 : wr.cell? ⟨b, off + k * 9 + 5, none⟩ = some (.int .i64 f.note) := (cc 5).trans (hcell 5 _ rfl)
        have g6 : wr.cell? ⟨b, off + k * 9 + 6, none⟩ = some (.bool f.fin) := (cc 6).trans (hcell 6 _ rfl)
        have g7 : wr.cell? ⟨b, off + k * 9 + 7, none⟩ = some (.slice A2 n2 c2) := (cc 7).trans (hcell 7 _ rfl)
        have g8 : wr.cell? ⟨b, off + k * 9 + 8, none⟩ = some (.slice A3 n3 c3) := (cc 8).trans (hcell 8 _ rfl)
        have HBX : Hid (Below w1.heap.size w1 (wr.alloc (.cells #[.int .i64 f.k, .int .i64 f.id, .int .i64 f.off, .int .i64 f.a, .int .i64 f.b, .int .i64 f.note, .bool f.fin, .slice A2 n2 c2, .slice A3 n3 c3] 26))) := HB6.out.alloc HB6.out.size _
        have H5X : Hid (Below w5.heap.size w5 (wr.alloc (.cells #[.int .i64 f.k, .int .i64 f.id, .int .i64 f.off, .int .i64 f.a, .int .i64 f.b, .int .i64 f.note, .bool f.fin, .slice A2 n2 c2, .slice A3 n3 c3] 26))) := HK.out.2.alloc HK.out.2.size _
        clear cc hcell hf hfc hof hn2 hn3
        go_wp2_with fail
        refine (HRI.out _ HBX.out).mono ?_
        rintro e w7 ⟨rfl, hb⟩
        obtain ⟨gx, hgx⟩ : ∃ g, Hid (wr.heap.size = g) := ⟨_, rfl⟩
        have hx7 : w7.heap[gx]? = some (.cells #[.int .i64 f.k, .int .i64 f.id, .int .i64 f.off, .int .i64 f.a, .int .i64 f.b, .int .i64 f.note, .bool f.fin, .slice A2 n2 c2, .slice A3 n3 c3] 26 (0, 0)) := by
          rw [← hgx.out, hb.block wr.heap.size (by simp)]
          exact heap_alloc_new _ _
        have HB7 : Hid (Below w1.heap.size w1 w7) := HBX.out.trans (hb.mono HBX.out.size)
        have H57 : Hid (Below w5.heap.size w5 w7) := H5X.out.trans (hb.mono H5X.out.size)
        have y0 := cell_of_row w7 gx 0 _ _ _ hx7
        have y1 := cell_of_row w7 gx 1 _ _ _ hx7
        have y2 := cell_of_row w7 gx 2 _ _ _ hx7
        have y3 := cell_of_row w7 gx 3 _ _ _ hx7
        have y4 := cell_of_row w7 gx 4 _ _ _ hx7
        have y5 := cell_of_row w7 gx 5 _ _ _ hx7
        have y6 := cell_of_row w7 gx 6 _ _ _ hx7
        have y7 := cell_of_row w7 gx 7 _ _ _ hx7
        have y8 := cell_of_row w7 gx 8 _ _ _ hx7
        clear hb hx7
        rw [hgx.out]
        go_wp2_with fail
        refine (HSZ.out _ HB7.out).mono ?_
        rintro e w8 ⟨rfl, hb⟩
        have HN : Hid (m + z = (layF (fs.take (k + 1))).length ∧ Below w5.heap.size w5 w8) := ⟨hsn.out.symm, H57.out.trans (hb.mono H57.out.size)⟩
        clear hb y0 y1 y2 y3 y4 y5 y6 y7 y8
        go_wp2_with fail
        go_roundw
        case rel =>
          exact ⟨k + 1, m + z, by omega, hmz, by go_num, by go_num, HN⟩
        case measure => simp [intOf]; omega
      · have hlti : ¬ (k : Int) < (n1 : Int) := by omega
        obtain rfl : k = n1 := by omega
        have hmn : m = no := by
          rw [HK.out.1, List.take_of_length_le (by rw [HFL.out]; exact Nat.le_refl _), HLO.out]
        subst hmn
        have hwr : Below w.heap.size w wr := HB1.out.trans (HB6.out.mono HB1.out.size)
        have HKN := Lib.hid (known_any HLd.out hwr)
        have HW := Lib.hid hwr
        have H4r : Hid (Below w4.heap.size w4 wr) := H45.out.trans (HK.out.2.mono H45.out.size)
        clear hwr
        go_wp2_with fail
        refine HKN.out.mono ?_
        rintro e wa ⟨rfl, hb⟩
        have H4a : Hid (Below w4.heap.size w4 wa) := H4r.out.trans (hb.mono H4r.out.size)
        have H5a : Hid (Below w5.heap.size w5 wa) := HK.out.2.trans (hb.mono HK.out.2.size)
        have HWa : Hid (Below w.heap.size w wa) := HW.out.trans (hb.mono HW.out.size)
        clear hb
        go_wp2_with fail
        refine ((HSA.out wa H4a.out).1).mono ?_
        rintro e wb ⟨rfl, hb⟩
        have H4b : Hid (Below w4.heap.size w4 wb) := H4a.out.trans (hb.mono H4a.out.size)
        have H5b : Hid (Below w5.heap.size w5 wb) := H5a.out.trans (hb.mono H5a.out.size)
        have HWb : Hid (Below w.heap.size w wb) := HWa.out.trans (hb.mono HWa.out.size)
        clear hb
        go_wp2_with fail
        refine ((HSA.out wb H4b.out).2).mono ?_
        rintro e wd ⟨rfl, hb⟩
        have H5d : Hid (Below w5.heap.size w5 wd) := H5b.out.trans (hb.mono H5b.out.size)
        have HWd : Hid (Below w.heap.size w wd) := HWb.out.trans (hb.mono HWb.out.size)
        clear hb
        obtain ⟨v1, v2, v3⟩ := HCV.out wd H5d.out
        have hst : strOf (layF (fs.take q)) ++ strOf (layF (fs.drop q)) = strOf (layF fs) := by rw [strOf_app, ← layF_app, List.take_append_drop]
        have hng : ¬ (9223372036854775807 < (strOf (layF (fs.take q))).size + (strOf (layF (fs.drop q))).size) := by
          have e1 : ∀ l : List Nat, (strOf l).size = l.length := fun l => by simp [strOf, ByteArray.size]
          have e2 : (layF (fs.take q)).length + (layF (fs.drop q)).length = (layF fs).length := by rw [← List.length_append, ← layF_app, List.take_append_drop]
          rw [e1, e1]
          have := HLO.out
          omega
        go_wp2_with fail
        go_ret
        refine ⟨ret_bool ?_, HWd.out⟩
        simp [hst]
end Go.Proofs.YtkphmgfjlbdpgaaDoor

namespace Go.Proofs.YtkphmgfjlbdpgaaDoor
open Go Go.RowKit

set_option maxRecDepth 100000 in
set_option maxHeartbeats 4000000 in
theorem cut_walk (A : Option Addr) (n c : Nat) (rs : List Rw) (cut_ : Int) (w : World) (hL : laidMetH Tryd.prog laids w) (hr : IsRaws w A c n rs) :
    Calls Tryd.prog 6 #[.slice A n c, .int .i64 cut_] w fun e w' => e = .returned (.bool true) ∧ Below w.heap.size w w' := by
  have HLd := Lib.hid hL
  have HRi := Lib.hid (hright_any 5 (by decide) rs A n c w hr)
  clear hL hr
  go_enter Tryd.func6, Tryd.ntmps6
  go_wp2_with fail
  refine HRi.out.mono ?_
  rintro e w1 ⟨A1, n1, c1, fs, rfl, hfl, hn8, hok, hown, hbw⟩
  have HFL := Lib.hid hfl
  have HOK := Lib.hid hok
  have HF1 := Lib.hid (hown.frs hfl)
  have HB1 := Lib.hid hbw
  have hci : (n1 : Int) ≤ (c1 : Int) := by have := HF1.out.2.1; omega
  have hni : (n1 : Int) ≤ 5 := by omega
  clear hfl hok hown hbw HRi
  have HLA := Lib.hid (lay_ok fs A1 n1 c1 w1 (tabs_of HLd.out HB1.out) HF1.out HOK.out (by omega))
  go_wp2_with fail
  refine HLA.out.mono ?_
  rintro e w2 ⟨Ao, no, co, rfl, hlo, hoo, hb⟩
  have HLO := Lib.hid hlo
  have HB2 : Hid (Below w1.heap.size w1 w2) := hb
  have hl8 : (layF fs).length ≤ 312 * 5 := Nat.le_trans (layF_len HOK.out) (Nat.mul_le_mul_left _ (by have := HFL.out; omega))
  have hno : no ≤ 1560 := by have := HLO.out; omega
  have hco : no ≤ co := by
    obtain ⟨_, _, ev, hnc, _⟩ := own_form hoo
    simp only [Value.slice.injEq] at ev
    omega
  have HOW : Hid (Rd w2 w2.heap.size Ao no (bv (layF fs))) := by
    obtain ⟨_, _, ev, hnc, _, _, hrd⟩ := own_form hoo
    simp only [Value.slice.injEq] at ev
    obtain ⟨rfl, _, rfl⟩ := ev
    rw [Nat.mul_one] at hrd
    exact hrd
  clear hlo hoo hb HLA hl8
  have HPK := Lib.hid (fun W => pick_any cut_ ((no : Int) + 1) W (by omega) (by omega))
  have hq0 := Int.emod_nonneg cut_ (show ((no : Int) + 1) ≠ 0 by omega)
  have hq1 := Int.emod_lt_of_pos cut_ (show 0 < ((no : Int) + 1) by omega)
  obtain ⟨q, hq⟩ : ∃ q : Nat, cut_ % ((no : Int) + 1) = (q : Int) := ⟨(cut_ % ((no : Int) + 1)).toNat, by omega⟩
  rw [hq] at HPK hq0 hq1
  have hmn : q ≤ no := by omega
  have hqc : (q : Int) ≤ (co : Int) := by omega
  clear hq hq0 hq1
  go_wp2_with fail
  refine (HPK.out _).mono ?_
  rintro e w' ⟨rfl, hw⟩
  subst hw
  go_wp2_with fail
  go_loopw [9, 10] (fun s i wr => ∃ (k m : Nat), k ≤ n1 ∧ m ≤ q ∧ i = .int .i64 k ∧ s = .int .i64 m ∧ Hid (m = (layF (fs.take k)).length ∧ Below w2.heap.size w2 wr)) (fun _ i _ => n1 - (intOf i).toNat)
  case atStart => exact ⟨0, 0, Nat.zero_le _, Nat.zero_le _, rfl, rfl, rfl, Below.refl _ _⟩
  case round =>
    obtain ⟨k, m, hk, hm, rfl, rfl, HK⟩ := hrel
    have HB6 : Hid (Below w1.heap.size w1 wr) := HB2.out.trans (HK.out.2.mono HB2.out.size)
    by_cases hlt : k < n1
    · have hlti : (k : Int) < (n1 : Int) := by omega
      obtain ⟨b, off, f, A2, n2, c2, A3, n3, c3, hA, hbl, hf, hfc, hcell⟩ := HF1.out.get k hlt
      subst hA
      have hof := HOK.out f (List.mem_of_getElem? hf)
      have HSZ : Hid (∀ W, Below w1.heap.size w1 W → Calls Tryd.prog 16 #[.agg #[.int .i64 f.k, .int .i64 f.id, .int .i64 f.off, .int .i64 f.a, .int .i64 f.b, .int .i64 f.note, .bool f.fin, .slice A2 n2 c2, .slice A3 n3 c3]] W fun e w' => e = .returned (.int .i64 ((encF f).length : Int)) ∧ Below W.heap.size W w') := fun W hW => size_ok_f f A2 n2 c2 A3 n3 c3 W (hfc.below hW).isFr hof
      obtain ⟨z, hz⟩ : ∃ z, Hid ((encF f).length = z) := ⟨_, rfl⟩
      rw [hz.out] at HSZ
      have hz312 : z ≤ 312 := by rw [← hz.out]; exact encF_len hof
      have hsn : Hid ((layF (fs.take (k + 1))).length = m + z) := by show _ = _; rw [layF_snoc fs k f hf, List.length_append, ← HK.out.1, hz.out]
      have HCC := Lib.hid (fun (W : World) (hW : Below w1.heap.size w1 W) (j : Nat) => show W.cell? ⟨b, off + k * 9 + j, none⟩ = w1.cell? ⟨b, off + k * 9 + j, none⟩ from hW.cell (p := ⟨b, off + k * 9 + j, none⟩) hbl)
      have HCL := Lib.hid hcell
      have HFF := Lib.hid hf
      have g0 : wr.cell? ⟨b, off + k * 9, none⟩ = some (.int .i64 f.k) := (HCC.out wr HB6.out 0).trans (hcell 0 _ rfl)
      have g1 : wr.cell? ⟨b, off + k * 9 + 1, none⟩ = some (.int .i64 f.id) := (HCC.out wr HB6.out 1).trans (hcell 1 _ rfl)
      have g2 : wr.cell? ⟨b, off + k * 9 + 2, none⟩ = some (.int .i64 f.off) := (HCC.out wr HB6.out 2).trans (hcell 2 _ rfl)
      have g3 : wr.cell? ⟨b, off + k * 9 + 3, none⟩ = some (.int .i64 f.a) := (HCC.out wr HB6.out 3).trans (hcell 3 _ rfl)
      have g4 : wr.cell? ⟨b, off + k * 9 + 4, none⟩ = some (.int .i64 f.b) := (HCC.out wr HB6.out 4).trans (hcell 4 _ rfl)
      have g5 : wr.cell? ⟨b, off + k * 9 + 5, none⟩ = some (.int .i64 f.note) := (HCC.out wr HB6.out 5).trans (hcell 5 _ rfl)
      have g6 : wr.cell? ⟨b, off + k * 9 + 6, none⟩ = some (.bool f.fin) := (HCC.out wr HB6.out 6).trans (hcell 6 _ rfl)
      have g7 : wr.cell? ⟨b, off + k * 9 + 7, none⟩ = some (.slice A2 n2 c2) := (HCC.out wr HB6.out 7).trans (hcell 7 _ rfl)
      have g8 : wr.cell? ⟨b, off + k * 9 + 8, none⟩ = some (.slice A3 n3 c3) := (HCC.out wr HB6.out 8).trans (hcell 8 _ rfl)
      clear hcell hf hfc hof
      by_cases hfit : m + z ≤ q
      · have hfiti : (m : Int) + (z : Int) ≤ (q : Int) := by omega
        go_wp2_with fail
        refine (HSZ.out _ HB6.out).mono ?_
        rintro e w7 ⟨rfl, hb⟩
        have HB7 : Hid (Below w1.heap.size w1 w7) := HB6.out.trans (hb.mono HB6.out.size)
        have H27 : Hid (Below w2.heap.size w2 w7) := HK.out.2.trans (hb.mono HK.out.2.size)
        clear hb g0 g1 g2 g3 g4 g5 g6 g7 g8
        have g0 : w7.cell? ⟨b, off + k * 9, none⟩ = some (.int .i64 f.k) := (HCC.out w7 HB7.out 0).trans (HCL.out 0 _ rfl)
        have g1 : w7.cell? ⟨b, off + k * 9 + 1, none⟩ = some (.int .i64 f.id) := (HCC.out w7 HB7.out 1).trans (HCL.out 1 _ rfl)
        have g2 : w7.cell? ⟨b, off + k * 9 + 2, none⟩ = some (.int .i64 f.off) := (HCC.out w7 HB7.out 2).trans (HCL.out 2 _ rfl)
        have g3 : w7.cell? ⟨b, off + k * 9 + 3, none⟩ = some (.int .i64 f.a) := (HCC.out w7 HB7.out 3).trans (HCL.out 3 _ rfl)
        have g4 : w7.cell? ⟨b, off + k * 9 + 4, none⟩ = some (.int .i64 f.b) := (HCC.out w7 HB7.out 4).trans (HCL.out 4 _ rfl)
        have g5 : w7.cell? ⟨b, off + k * 9 + 5, none⟩ = some (.int .i64 f.note) := (HCC.out w7 HB7.out 5).trans (HCL.out 5 _ rfl)
        have g6 : w7.cell? ⟨b, off + k * 9 + 6, none⟩ = some (.bool f.fin) := (HCC.out w7 HB7.out 6).trans (HCL.out 6 _ rfl)
        have g7 : w7.cell? ⟨b, off + k * 9 + 7, none⟩ = some (.slice A2 n2 c2) := (HCC.out w7 HB7.out 7).trans (HCL.out 7 _ rfl)
        have g8 : w7.cell? ⟨b, off + k * 9 + 8, none⟩ = some (.slice A3 n3 c3) := (HCC.out w7 HB7.out 8).trans (HCL.out 8 _ rfl)
        go_wp2_with fail
        refine (HSZ.out _ HB7.out).mono ?_
        rintro e w8 ⟨rfl, hb⟩
        have HN : Hid (m + z = (layF (fs.take (k + 1))).length ∧ Below w2.heap.size w2 w8) := ⟨hsn.out.symm, H27.out.trans (hb.mono H27.out.size)⟩
        clear hb g0 g1 g2 g3 g4 g5 g6 g7 g8
        go_wp2_with fail
        go_roundw
        case rel => exact ⟨k + 1, m + z, by omega, hfit, by go_num, by go_num, HN⟩
        case measure => simp [intOf]; omega
      · have hfiti : ¬ (m : Int) + (z : Int) ≤ (q : Int) := by omega
        have HEX : Hid (k < n1 → ∀ f, fs[k]? = some f → q < m + (encF f).length) := fun _ g hg => by
          have hgf : g = f := Option.some.inj (hg.symm.trans HFF.out)
          rw [hgf, hz.out]
          omega
        have hq12 : q ≤ 1560 := by omega
        go_wp2_with fail
        refine (HSZ.out _ HB6.out).mono ?_
        rintro e w7 ⟨rfl, hb⟩
        have HK7 : Hid (m = (layF (fs.take k)).length ∧ Below w2.heap.size w2 w7) := ⟨HK.out.1, HK.out.2.trans (hb.mono HK.out.2.size)⟩
        clear hb g0 g1 g2 g3 g4 g5 g6 g7 g8 HB6 HK HFF HCL HCC HSZ hz hsn
        clear hfit
        have HTW : Hid (Below w.heap.size w w7) := HB1.out.trans ((HB2.out.mono HB1.out.size).trans (HK7.out.2.mono (Nat.le_trans HB1.out.size HB2.out.size)))
        have HKN : Hid (∀ W, Below w.heap.size w W → Calls Tryd.prog 14 #[] W fun e w' => e = .returned (.bool true) ∧ Below W.heap.size W w') := fun W hW => known_any HLd.out hW
        by_cases hmq : m = q
        · subst hmq
          have hmi : ((m : Nat) : Int) = (m : Int) := rfl
          have htk : (layF fs).take m = layF (fs.take k) := by
            conv => lhs; rw [← List.take_append_drop k fs, layF_app, HK7.out.1]
            exact List.take_left
          have hlk : (fs.take k).length = k := by rw [List.length_take, HFL.out]; omega
          have HRE : Hid (Calls Tryd.prog 13 #[.slice Ao m co] w7 fun e w' => ∃ Ag cg, e = .returned (.tuple #[.slice Ag k cg, .int .i64 0]) ∧ FrsOwn w' w7.heap.size (.slice Ag k cg) ((fs.take k).map bare) ∧ Below w7.heap.size w7 w') := by
            have hrd' : Rd w7 w7.heap.size Ao (layF (fs.take k)).length (bv (layF (fs.take k))) := by
              have := (HOW.out.below HK7.out.2 (Nat.le_refl _)).head m hmn
              rw [bv_take, htk] at this
              rw [← HK7.out.1]
              exact this.more HK7.out.2.size
            have hlt : ∀ x ∈ layF (fs.take k), x < 256 := fun x hx => by
              obtain ⟨f, hf, hx⟩ := List.mem_flatMap.1 hx
              exact encF_lt (HOK.out f (List.mem_of_mem_take hf)) x hx
            have := read_ok (layF (fs.take k)) Ao co w7 hrd' hlt (by rw [← HK7.out.1]; omega) (by rw [← HK7.out.1]; omega)
            rw [read_enc (fs.take k) _ (fun f hf => HOK.out f (List.mem_of_mem_take hf)) (Nat.le_refl _), ← HK7.out.1] at this
            refine this.mono ?_
            rintro e w' ⟨h1, _, h3⟩
            obtain ⟨Ag, cg, he, ho⟩ := h1 rfl
            simp only [List.length_map, hlk] at he ho
            exact ⟨Ag, cg, he, ho, h3⟩
          have hki : (k : Int) ≤ (c1 : Int) := by omega
          have hkc : ((k : Nat) : Int) ≤ (n1 : Int) := by omega
          clear htk
          go_wp2_with fail
          refine HRE.out.mono ?_
          rintro e wa ⟨Ag, cg, rfl, hog, hb⟩
          have HOG := Lib.hid (hog.frs (by rw [List.length_map]; exact hlk))
          have HTA : Hid (Below w.heap.size w wa) := HTW.out.trans (hb.mono HTW.out.size)
          have H1A : Hid (Below w1.heap.size w1 wa) := HB2.out.trans ((HK7.out.2.trans (hb.mono HK7.out.2.size)).mono HB2.out.size)
          clear hog hb HRE
          go_wp2_with fail
          refine (HKN.out _ HTA.out).mono ?_
          rintro e wb ⟨rfl, hb⟩
          have HTB : Hid (Below w.heap.size w wb) := HTA.out.trans (hb.mono HTA.out.size)
          have H1B : Hid (Below w1.heap.size w1 wb) := H1A.out.trans (hb.mono H1A.out.size)
          have HGB : Hid (Frs wb Ag k cg ((fs.take k).map bare)) := HOG.out.below hb
          have hsp2 : ∀ f ∈ (fs.take k).map bare, f.spans.length ≤ 16 := fun f hf => by
            obtain ⟨g, hg, rfl⟩ := List.mem_map.1 hf
            obtain ⟨m', hm', hs⟩ := (HOK.out g (List.mem_of_mem_take hg)).sps
            have := hs.1
            show g.spans.length ≤ 16
            omega
          have HSA : Hid (Calls Tryd.prog 15 #[.slice Ag k cg, .slice (some ⟨b, off, none⟩) k c1] wb fun e w' => e = .returned (.bool true) ∧ Below wb.heap.size wb w') :=
            same_ok ((fs.take k).map bare) (fs.take k) (by rw [List.map_map]; rfl) Ag (some ⟨b, off, none⟩) k cg c1 wb HGB.out ((HF1.out.below H1B.out).take k (by omega)) (by omega) hsp2
          clear hb hsp2
          go_wp2_with fail
          refine HSA.out.mono ?_
          rintro e wc ⟨rfl, hb⟩
          have HTC : Hid (Below w.heap.size w wc) := HTB.out.trans (hb.mono HTB.out.size)
          clear hb
          go_wp2_with fail
          go_ret
          exact ⟨ret_bool (by simp), HTC.out⟩
        · have hmq' : ¬ (m : Int) = (q : Int) := by omega
          have hkl : k < n1 := by
            rcases Nat.lt_or_ge k n1 with h | h
            · exact h
            · exfalso
              have : fs.take k = fs := List.take_of_length_le (by rw [HFL.out]; exact h)
              have h2 := HK7.out.1
              rw [this, HLO.out] at h2
              omega
          obtain ⟨f, hf⟩ : ∃ f, fs[k]? = some f := ⟨fs[k]'(by rw [HFL.out]; exact hkl), List.getElem?_eq_getElem (by rw [HFL.out]; exact hkl)⟩
          have hof := HOK.out f (List.mem_of_getElem? hf)
          have hqz : q < m + (encF f).length := HEX.out hkl f hf
          have htk : (layF fs).take q = layF (fs.take k) ++ (encF f).take (q - m) := by
            have h1 : layF fs = layF (fs.take k) ++ (encF f ++ layF (fs.drop (k + 1))) := by
              conv => lhs; rw [← List.take_append_drop (k + 1) fs, layF_app, layF_snoc fs k f hf]
              rw [List.append_assoc]
            rw [h1, List.take_append, ← HK7.out.1, List.take_of_length_le (by rw [← HK7.out.1]; omega), List.take_append_of_le_length (by omega)]
          have hl2 : ((layF fs).take q).length = q := by rw [List.length_take, HLO.out]; omega
          have HRE : Hid (Calls Tryd.prog 13 #[.slice Ao q co] w7 fun e w' => e = .returned (.tuple #[.slice none 0 0, .int .i64 3]) ∧ Below w7.heap.size w7 w') := by
            have hrd' : Rd w7 w7.heap.size Ao ((layF fs).take q).length (bv ((layF fs).take q)) := by
              have := (HOW.out.below HK7.out.2 (Nat.le_refl _)).head q hmn
              rw [bv_take] at this
              rw [hl2]
              exact this.more HK7.out.2.size
            have hlt : ∀ x ∈ (layF fs).take q, x < 256 := fun x hx => by
              obtain ⟨f, hf, hx⟩ := List.mem_flatMap.1 (List.mem_of_mem_take hx)
              exact encF_lt (HOK.out f hf) x hx
            have := read_ok ((layF fs).take q) Ao co w7 hrd' hlt (by rw [hl2]; omega) (by rw [hl2]; omega)
            have h3 : (readN ((layF fs).take q).length ⟨(layF fs).take q, 0⟩).2.e = 3 := by
              rw [hl2, htk]
              exact read_part hof (q - m) (by omega) (by omega) (fs.take k) q (fun g hg => HOK.out g (List.mem_of_mem_take hg)) (by rw [← HK7.out.1]; omega)
            rw [hl2] at this h3
            refine this.mono ?_
            rintro e w' ⟨_, h2, h5⟩
            have := h2 (by rw [h3]; decide)
            rw [h3] at this
            exact ⟨this, h5⟩
          clear htk hl2 hf hof hqz
          go_wp2_with fail
          refine HRE.out.mono ?_
          rintro e wa ⟨rfl, hb⟩
          have HTA : Hid (Below w.heap.size w wa) := HTW.out.trans (hb.mono HTW.out.size)
          clear hb HRE
          go_wp2_with fail
          refine (HKN.out _ HTA.out).mono ?_
          rintro e wb ⟨rfl, hb⟩
          have HTB : Hid (Below w.heap.size w wb) := HTA.out.trans (hb.mono HTA.out.size)
          clear hb
          go_wp2_with fail
          go_ret
          exact ⟨ret_bool (by simp), HTB.out⟩
    · have hlti : ¬ (k : Int) < (n1 : Int) := by omega
      have HEX : Hid (k < n1 → ∀ f, fs[k]? = some f → q < m + (encF f).length) := fun h => absurd h hlt
      clear HB6
      have HTW : Hid (Below w.heap.size w wr) := HB1.out.trans ((HB2.out.mono HB1.out.size).trans (HK.out.2.mono (Nat.le_trans HB1.out.size HB2.out.size)))
      have HKN : Hid (∀ W, Below w.heap.size w W → Calls Tryd.prog 14 #[] W fun e w' => e = .returned (.bool true) ∧ Below W.heap.size W w') := fun W hW => known_any HLd.out hW
      by_cases hmq : m = q
      · subst hmq
        have hmi : ((m : Nat) : Int) = (m : Int) := rfl
        have htk : (layF fs).take m = layF (fs.take k) := by
          conv => lhs; rw [← List.take_append_drop k fs, layF_app, HK.out.1]
          exact List.take_left
        have hlk : (fs.take k).length = k := by rw [List.length_take, HFL.out]; omega
        have HRE : Hid (Calls Tryd.prog 13 #[.slice Ao m co] wr fun e w' => ∃ Ag cg, e = .returned (.tuple #[.slice Ag k cg, .int .i64 0]) ∧ FrsOwn w' wr.heap.size (.slice Ag k cg) ((fs.take k).map bare) ∧ Below wr.heap.size wr w') := by
          have hrd' : Rd wr wr.heap.size Ao (layF (fs.take k)).length (bv (layF (fs.take k))) := by
            have := (HOW.out.below HK.out.2 (Nat.le_refl _)).head m hmn
            rw [bv_take, htk] at this
            rw [← HK.out.1]
            exact this.more HK.out.2.size
          have hlt : ∀ x ∈ layF (fs.take k), x < 256 := fun x hx => by
            obtain ⟨f, hf, hx⟩ := List.mem_flatMap.1 hx
            exact encF_lt (HOK.out f (List.mem_of_mem_take hf)) x hx
          have := read_ok (layF (fs.take k)) Ao co wr hrd' hlt (by rw [← HK.out.1]; omega) (by rw [← HK.out.1]; omega)
          rw [read_enc (fs.take k) _ (fun f hf => HOK.out f (List.mem_of_mem_take hf)) (Nat.le_refl _), ← HK.out.1] at this
          refine this.mono ?_
          rintro e w' ⟨h1, _, h3⟩
          obtain ⟨Ag, cg, he, ho⟩ := h1 rfl
          simp only [List.length_map, hlk] at he ho
          exact ⟨Ag, cg, he, ho, h3⟩
        have hki : (k : Int) ≤ (c1 : Int) := by omega
        have hkc : ((k : Nat) : Int) ≤ (n1 : Int) := by omega
        clear htk
        go_wp2_with fail
        refine HRE.out.mono ?_
        rintro e wa ⟨Ag, cg, rfl, hog, hb⟩
        have HOG := Lib.hid (hog.frs (by rw [List.length_map]; exact hlk))
        have HTA : Hid (Below w.heap.size w wa) := HTW.out.trans (hb.mono HTW.out.size)
        have H1A : Hid (Below w1.heap.size w1 wa) := HB2.out.trans ((HK.out.2.trans (hb.mono HK.out.2.size)).mono HB2.out.size)
        clear hog hb HRE
        go_wp2_with fail
        refine (HKN.out _ HTA.out).mono ?_
        rintro e wb ⟨rfl, hb⟩
        have HTB : Hid (Below w.heap.size w wb) := HTA.out.trans (hb.mono HTA.out.size)
        have H1B : Hid (Below w1.heap.size w1 wb) := H1A.out.trans (hb.mono H1A.out.size)
        have HGB : Hid (Frs wb Ag k cg ((fs.take k).map bare)) := HOG.out.below hb
        have hsp2 : ∀ f ∈ (fs.take k).map bare, f.spans.length ≤ 16 := fun f hf => by
          obtain ⟨g, hg, rfl⟩ := List.mem_map.1 hf
          obtain ⟨m', hm', hs⟩ := (HOK.out g (List.mem_of_mem_take hg)).sps
          have := hs.1
          show g.spans.length ≤ 16
          omega
        have HSA : Hid (Calls Tryd.prog 15 #[.slice Ag k cg, .slice A1 k c1] wb fun e w' => e = .returned (.bool true) ∧ Below wb.heap.size wb w') :=
          same_ok ((fs.take k).map bare) (fs.take k) (by rw [List.map_map]; rfl) Ag A1 k cg c1 wb HGB.out ((HF1.out.below H1B.out).take k (by omega)) (by omega) hsp2
        clear hb hsp2
        go_wp2_with fail
        refine HSA.out.mono ?_
        rintro e wc ⟨rfl, hb⟩
        have HTC : Hid (Below w.heap.size w wc) := HTB.out.trans (hb.mono HTB.out.size)
        clear hb
        go_wp2_with fail
        go_ret
        exact ⟨ret_bool (by simp), HTC.out⟩
      · have hmq' : ¬ (m : Int) = (q : Int) := by omega
        have hkl : k < n1 := by
          rcases Nat.lt_or_ge k n1 with h | h
          · exact h
          · exfalso
            have : fs.take k = fs := List.take_of_length_le (by rw [HFL.out]; exact h)
            have h2 := HK.out.1
            rw [this, HLO.out] at h2
            omega
        exact absurd hkl hlt
end Go.Proofs.YtkphmgfjlbdpgaaDoor
