/- VarintTells: the walk. Conditions: the two listed tables of math/bits read as listed. -/
import Derived.Test.YtmdmkjkdfagcfaaDoorT6
import Derived.Deep.DeepCutAuto
import Derived.Deep.CutBlock
import Derived.Deep.LoopGhost
import Derived.Deep.QuietTactic
import Derived.BigQuiet
import Derived.Laws.OwnMore
namespace Go.Proofs.YtmdmkjkdfagcfaaDoor.Tells
open Go Go.RowKit

theorem hid_mk {p : Prop} (h : p) : Hid p := h
theorem rd_drewN {w : World} {B n : Nat} {A : Option Addr} {xs : List Value} (h : Rd w B A n xs) (m : Nat) : Rd (w.drewN m) B A n xs := h

set_option maxRecDepth 100000 in
set_option maxHeartbeats 16000000 in
theorem walk (fb : List Nat) (A0 : Option Addr) (c0 : Nat) (l : List Int) (A1 : Option Addr) (c1 : Nat) (mb : List Nat) (A2 : Option Addr) (c2 : Nat) (cut count at_ with_ : Int) (w : World) (hL : laidMetH Tryd.prog laids w) (hf : IsBytes w A0 c0 fb) (hl : IsInts w A1 c1 l) (hmb : IsBytes w A2 c2 mb)
    (a1 : -9223372036854775808 ≤ at_) (a2 : at_ ≤ 9223372036854775807) (k1 : 0 ≤ with_) (k2 : with_ ≤ 255) :
    Calls Tryd.prog 4 #[.slice A0 fb.length c0, .slice A1 l.length c1, .slice A2 mb.length c2, .int .i64 cut, .int .i64 count, .int .i64 at_, .int .u8 with_] w fun e w' => e = .returned (.bool true) ∧ Below w.heap.size w w' := by
  have HLd := Lib.hid hL
  have HF := Lib.hid hf
  have HI := Lib.hid hl
  have HM := Lib.hid hmb
  obtain ⟨i5, hi5, hy0, hy1, hy2⟩ := info_parts info5
  have HI5 := Lib.hid (And.intro hi5 (And.intro hy0 (And.intro hy1 hy2)))
  have HFw := Lib.hid (few_any fb w.heap.size A0 c0 20 w hf.rd (Nat.le_refl _) hf.cap (by have := hf.reach; omega))
  clear hL hf hl hmb hi5 hy0 hy1 hy2
  go_enter Tryd.func4, Tryd.ntmps4
  go_wp2_with fail
  refine HFw.out.mono ?_; rintro e w1 ⟨v1, rfl, ho1, hb1⟩
  obtain ⟨hb, hhb⟩ : ∃ f, Hid (fb.take 20 = f) := ⟨_, rfl⟩
  rw [hhb.out] at ho1
  have hb20 : hb.length ≤ 20 := by rw [← hhb.out, List.length_take]; omega
  have hblt : Hid (∀ c ∈ hb, c < 256) := by rw [← hhb.out]; exact fun c hc => HF.out.lt c (List.mem_of_mem_take hc)
  obtain ⟨A15, c15, rfl, _, _, _, h14⟩ := own_form ho1
  have H1 := Lib.hid (And.intro h14 hb1)
  clear ho1 hb1 h14 HFw
  have HNw := Lib.hid (nums_any l w.heap.size A1 c1 w1 (HI.out.rd.below H1.out.2 (Nat.le_refl _)) H1.out.2.size HI.out.lt HI.out.reach)
  go_wp2_with fail
  refine HNw.out.mono ?_; rintro e w2 ⟨k, A16, c16, hk12, hkl, _, rfl, ho2, hb2⟩
  obtain ⟨N, hN⟩ : ∃ f, Hid (numt l k = f) := ⟨_, rfl⟩
  have hNl : Hid (N.length = k) := by rw [← hN.out]; exact numt_len l k hkl
  rw [hN.out] at ho2
  have H2 : Hid (okA A16 k c16 ∧ Rd w2 w2.heap.size A16 k (ints N) ∧ Below w1.heap.size w1 w2) := by
    obtain ⟨An, cn, en, _, _, h2, h3⟩ := own_form ho2
    simp only [Value.slice.injEq] at en
    obtain ⟨rfl, _, rfl⟩ := en
    exact ⟨h2, h3, hb2⟩
  clear ho2 hb2 hkl HNw
  have HB2 : Hid (Below w.heap.size w w2) := H1.out.2.trans (H2.out.2.2.mono H1.out.2.size)
  have HT2 : Hid (Tabs w2) := (tabs_of HLd.out).below HB2.out (tabs_of HLd.out).lt
  have HP := vput_f hb w1.heap.size A15 c15 N w2.heap.size A16 c16 w2 HT2.out (H1.out.1.below H2.out.2.2 (Nat.le_refl _)) H2.out.2.2.size (by rw [hNl.out]; exact H2.out.2.1) (Nat.le_refl _) (by rw [hNl.out]; exact H2.out.1) (by rw [hNl.out]; omega) (by omega)
  rw [hNl.out] at HP
  have HP := Lib.hid HP
  obtain ⟨X, hX⟩ : ∃ f, Hid (putF hb N = f) := ⟨_, rfl⟩
  go_wp2_with fail
  refine HP.out.mono ?_; rintro e w3 ⟨v3, rfl, ho3, hb3⟩
  rw [hX.out] at ho3
  obtain ⟨A17, c17, rfl, _, _, _, h34⟩ := own_form ho3
  have H3 := Lib.hid (And.intro h34 hb3)
  clear ho3 hb3 h34 HP
  have HB3 : Hid (Below w.heap.size w w3) := HB2.out.trans (H3.out.2.mono HB2.out.size)
  have HN3 : Hid (Rd w3 w2.heap.size A16 k (ints N)) := H2.out.2.1.below H3.out.2 (Nat.le_refl _)
  have HP := rput_f hb w1.heap.size A15 c15 N w2.heap.size A16 c16 w3 ((H1.out.1.below H2.out.2.2 (Nat.le_refl _)).below H3.out.2 H2.out.2.2.size) (Nat.le_trans H2.out.2.2.size H3.out.2.size) (by rw [hNl.out]; exact HN3.out) H3.out.2.size (by rw [hNl.out]; omega) (by omega)
  rw [hNl.out] at HP
  have HP := Lib.hid HP
  go_wp2_with fail
  refine HP.out.mono ?_; rintro e w4 ⟨v4, rfl, ho4, hb4⟩
  rw [hX.out] at ho4
  obtain ⟨A18, c18, rfl, _, _, _, h44⟩ := own_form ho4
  have H4 := Lib.hid (And.intro h44 hb4)
  clear ho4 hb4 h44 HP
  have HB4 : Hid (Below w.heap.size w w4) := HB3.out.trans (H4.out.2.mono HB3.out.size)
  have HN4 : Hid (Rd w4 w4.heap.size A16 k (ints N)) := (HN3.out.below H4.out.2 H3.out.2.size).more (Nat.le_trans H3.out.2.size H4.out.2.size)
  have k17 := conv_run (P := Tryd.prog) w4 22 9 5 Tryd.underlying22 Tryd.underlying5 Tryd.underlying9 w3.heap.size A17 X.length c17 X (H3.out.1.below H4.out.2 (Nat.le_refl _))
  have k18 := conv_run (P := Tryd.prog) w4 22 9 5 Tryd.underlying22 Tryd.underlying5 Tryd.underlying9 w4.heap.size A18 X.length c18 X H4.out.1
  obtain ⟨sz, hsz⟩ : ∃ z : Int, Hid ((if allMay N then ((sumW N : Nat) : Int) else -1) = z) := ⟨_, rfl⟩
  have HS1 : Hid (Calls Tryd.prog 13 #[.slice A16 k c16] w4 fun e w' => e = .returned (.int .i64 sz) ∧ w4 = w') := by
    have := size_any N w4.heap.size A16 c16 w4 (by rw [hNl.out]; exact H2.out.1) (by rw [hNl.out]; exact HN4.out) (by rw [hNl.out]; omega)
    rwa [hNl.out, hsz.out] at this
  have HS2 : Hid (Calls Tryd.prog 17 #[.slice A16 k c16] w4 fun e w' => e = .returned (.int .i64 sz) ∧ w4 = w') := by
    have := rSize_any N w4.heap.size A16 c16 w4 (by rw [hNl.out]; exact HN4.out) (by rw [hNl.out]; omega)
    rwa [hNl.out, hsz.out] at this
  go_wp2_with fail
  refine HS1.out.mono ?_; rintro e w' ⟨rfl, rfl⟩
  go_wp2_with fail
  refine HS2.out.mono ?_; rintro e w' ⟨rfl, rfl⟩
  clear HS1 HS2 k17 k18 hsz
  have HP := rput_f [] 0 none 0 N w4.heap.size A16 c16 w4 ⟨rfl, fun h => absurd h (by decide)⟩ (Nat.zero_le _) (by rw [hNl.out]; exact HN4.out) (Nat.le_refl _) (by rw [hNl.out]; omega) (by simp)
  rw [hNl.out] at HP
  have HP := Lib.hid HP
  obtain ⟨Y, hY⟩ : ∃ f, Hid (putF [] N = f) := ⟨_, rfl⟩
  have hYl : Y.length ≤ 96 := by have := putF_len [] N; rw [hY.out, hNl.out] at this; simp at this; omega
  have hYlt : Hid (∀ c ∈ Y, c < 256) := by rw [← hY.out]; exact putF_lt [] N (fun c hc => by cases hc)
  go_wp2_with fail
  refine HP.out.mono ?_; rintro e w5 ⟨v5, rfl, ho5, hb5⟩
  rw [hY.out] at ho5
  obtain ⟨A60, c60, rfl, h51, _, _, h54⟩ := own_form ho5
  have H5 := Lib.hid (And.intro h51 (And.intro h54 hb5))
  clear ho5 hb5 h51 h54 HP
  have HB5 : Hid (Below w.heap.size w w5) := HB4.out.trans (H5.out.2.2.mono HB4.out.size)
  obtain ⟨q, hq⟩ : ∃ z, Hid (mayF at_ = z) := ⟨_, rfl⟩
  have HMy : Hid (∀ W, Calls Tryd.prog 18 #[.int .i64 at_] W fun e w' => e = .returned (.int .i64 q) ∧ W = w') := fun W => by
    have := hmay_any at_ W a1 a2
    rwa [hq.out] at this
  go_wp2_with fail
  refine (HMy.out _).mono ?_; rintro e w' ⟨rfl, rfl⟩
  obtain ⟨Z, hZ⟩ : ∃ f, Hid (putF [] [q] = f) := ⟨_, rfl⟩
  have hZl : Z.length ≤ 8 := by have := putF_len [] [q]; rw [hZ.out] at this; simpa using this
  have hZlt : Hid (∀ c ∈ Z, c < 256) := by rw [← hZ.out]; exact putF_lt [] [q] (fun c hc => by cases hc)
  have HP : Hid (Calls Tryd.prog 16 #[.slice none 0 0, .slice (some ⟨w5.heap.size, 0, none⟩) 1 1] (w5.alloc (.cells #[.int .i64 q] 3)) fun e w' => ∃ v', e = .returned v' ∧ w'.ownsRow (w5.alloc (.cells #[.int .i64 q] 3)).heap.size 5 1 v' Z.length (bv Z) ∧ Below (w5.alloc (.cells #[.int .i64 q] 3)).heap.size (w5.alloc (.cells #[.int .i64 q] 3)) w') := by
    have := rput_f [] 0 none 0 [q] (w5.heap.size + 1) (some ⟨w5.heap.size, 0, none⟩) 1 (w5.alloc (.cells #[.int .i64 q] 3)) ⟨rfl, fun h => absurd h (by decide)⟩ (Nat.zero_le _) (rd_one _ _ _ (cell_at _ _ _ _ rfl)) (by simp) (by simp) (by simp)
    rwa [hZ.out] at this
  go_wp2_with fail
  refine HP.out.mono ?_; rintro e w6 ⟨v6, rfl, ho6, hb6⟩
  have HO6 := Lib.hid ho6
  have HB6 : Hid (Below w5.heap.size w5 w6) := ((Below.refl _ _).alloc (Nat.le_refl _) _).trans (hb6.mono (by simp))
  have hs6 : Hid (w5.heap.size + 1 ≤ w6.heap.size) := hid_mk (by have := hb6.size; simpa using this)
  clear ho6 hb6 HP
  have hmr : mb.length ≤ 140737488351232 := HM.out.reach
  go_wp2_with (at_builtin; refine wpList_app _ rfl _ _ 22 rfl (w5.heap.size + 1) 5 i5 (.int .u8 0) 1 Tryd.underlying22 HI5.out.1 HI5.out.2.1 HI5.out.2.2.1 HI5.out.2.2.2 rfl v6 Z.length (bv Z) rfl (by have := HO6.out; simpa using this) w.heap.size A2 mb.length c2 (bv mb) rfl (HM.out.rd.below (HB5.out.trans (HB6.out.mono HB5.out.size)) (Nat.le_refl _)) (ones_bv _) (by unfold maxLen; omega) (by omega) hs6.out ?_)
  intro v7 w7 hown7 hgrow7
  have HB7 : Hid (Below w5.heap.size w5 w7) := HB6.out.grown hgrow7 HB6.out.size (fun j hj => by have := (HO6.out.lt j hj).1; simp at this; omega)
  obtain ⟨A66, c66, rfl, h71, _, _, h74⟩ := own_form hown7
  have H7 := Lib.hid (And.intro h71 h74)
  clear hown7 hgrow7 h71 h74
  have HBw7 : Hid (Below w.heap.size w w7) := HB5.out.trans (HB7.out.mono HB5.out.size)
  have bvZ : Hid (bv Z ++ bv mb = bv (Z ++ mb)) := hid_mk (by simp [bv])
  have lZ : Hid (Z.length + mb.length = (Z ++ mb).length) := hid_mk (by rw [List.length_append])
  have hx0 := fun W => (index3 (.slice A0 fb.length c0) (.slice A60 Y.length c60) (.slice A66 (Z.length + mb.length) c66) W).1
  have hx1 := fun W => (index3 (.slice A0 fb.length c0) (.slice A60 Y.length c60) (.slice A66 (Z.length + mb.length) c66) W).2.1
  have hx2 := fun W => (index3 (.slice A0 fb.length c0) (.slice A60 Y.length c60) (.slice A66 (Z.length + mb.length) c66) W).2.2
  go_wp2_with fail
  go_loopg [68] 3 (fun gn i wr => ∃ j : Nat, j + gn = 3 ∧ i = .int .i64 j ∧ Hid (Below w7.heap.size w7 wr))
  case atStart => exact ⟨0, rfl, rfl, Below.refl _ _⟩
  case round =>
    obtain ⟨j, hj, rfl, HJ⟩ := hrel
    by_cases hj3 : j < 3
    · have hj3i : (j : Int) < 3 := by omega
      have HBj : Hid (Below w.heap.size w wr) := HBw7.out.trans (HJ.out.mono HBw7.out.size)
      go_upto_region 9 with fail
      go_cut [20, 68] (fun v s wx => s = .int .i64 (j : Int) ∧ wx = wr ∧ ∃ Az cz, ∃ zb : List Nat, v = .slice Az zb.length cz ∧ Hid (Rd wx wx.heap.size Az zb.length (bv zb) ∧ (∀ c ∈ zb, c < 256) ∧ zb.length ≤ cz ∧ zb.length ≤ 140737488355328))
      case first =>
        obtain rfl | rfl | rfl : j = 0 ∨ j = 1 ∨ j = 2 := by omega
        · go_wp2_with fail
          go_meet
          case rel => exact ⟨rfl, rfl, A0, c0, fb, rfl, (HF.out.rd.below HBj.out (Nat.le_refl _)).more HBj.out.size, HF.out.lt, HF.out.cap, by have := HF.out.reach; omega⟩
        · go_wp2_with fail
          go_meet
          case rel =>
            have b5 : Below w5.heap.size w5 wr := HB7.out.trans (HJ.out.mono HB7.out.size)
            exact ⟨rfl, rfl, A60, c60, Y, rfl, (H5.out.2.1.below b5 (Nat.le_refl _)).more b5.size, hYlt.out, H5.out.1, by omega⟩
        · go_wp2_with fail
          go_meet
          case rel =>
            refine ⟨rfl, rfl, A66, c66, Z ++ mb, by rw [lZ.out], ?_, ?_, ?_, ?_⟩
            · rw [← lZ.out, ← bvZ.out]
              exact (H7.out.2.below HJ.out (Nat.le_refl _)).more HJ.out.size
            · intro c hc
              rw [List.mem_append] at hc
              rcases hc with hc | hc
              · exact hZlt.out c hc
              · exact HM.out.lt c hc
            · rw [← lZ.out]; exact H7.out.1
            · rw [← lZ.out]; omega
      case rest =>
        obtain ⟨rfl, hw, Az, cz, zb, rfl, HZ⟩ := hcut
        replace hw := hw.symm
        subst hw
        clear hx0 hx1 hx2
        have HFz := Lib.hid (few_any zb wr.heap.size Az cz 60 wr HZ.out.1 (Nat.le_refl _) HZ.out.2.2.1 HZ.out.2.2.2)
        go_wp2_with fail
        refine HFz.out.mono ?_; rintro e w9 ⟨v9, rfl, ho9, hb9⟩
        obtain ⟨wb, hwb⟩ : ∃ f, Hid (zb.take 60 = f) := ⟨_, rfl⟩
        rw [hwb.out] at ho9
        have hwbl : wb.length ≤ 60 := by rw [← hwb.out, List.length_take]; omega
        have hwlt : Hid (∀ c ∈ wb, c < 256) := by rw [← hwb.out]; exact fun c hc => HZ.out.2.1 c (List.mem_of_mem_take hc)
        obtain ⟨m, hm⟩ : ∃ m, Hid (wb.length = m) := ⟨_, rfl⟩
        rw [hm.out] at ho9 hwbl
        obtain ⟨A21, c21, rfl, h21, _, _, h24⟩ := own_form ho9
        have H9 := Lib.hid (And.intro ho9 (And.intro h24 hb9))
        have hmc : m ≤ c21 := h21
        clear ho9 h21 h24 hb9 HFz
        go_upto_region 11 with fail
        go_cut [80] (fun v wx => ∃ p : Bool, v = .bool p ∧ (p = true → 0 < m) ∧ wx = w9)
        case first =>
          by_cases hm0 : 0 < m
          · have hm0i : (0 : Int) < (m : Int) := by omega
            by_cases h3 : at_.tmod 3 = 0
            · have h3b : (at_.tmod 3 == 0) = true := by simpa using h3
              clear h3
              go_wp2_with fail
              go_meet
              case rel => exact ⟨_, rfl, fun _ => hm0, rfl⟩
            · have h3b : (at_.tmod 3 == 0) = false := by simpa using h3
              clear h3
              go_wp2_with fail
              go_meet
              case rel => exact ⟨_, rfl, fun h => (by cases h), rfl⟩
          · have hm0i : ¬ (0 : Int) < (m : Int) := by omega
            obtain rfl : m = 0 := by omega
            go_wp2_with fail
            go_meet
            case rel => exact ⟨_, rfl, fun h => (by cases h), rfl⟩
        case rest =>
          obtain ⟨p, rfl, hp, hw⟩ := hcut
          replace hw := hw.symm
          subst hw
          go_upto_if 80 with fail
          go_cut [21] (fun v wx => ∃ wb2 : List Nat, v = .slice A21 m c21 ∧ Hid (Rd wx wx.heap.size A21 m (bv wb2) ∧ (∀ c ∈ wb2, c < 256) ∧ Below w7.heap.size w7 wx))
          case first =>
            cases p
            · go_wp2_with fail
              go_meet
              case rel => exact ⟨wb, rfl, H9.out.2.1, hwlt.out, HJ.out.trans (H9.out.2.2.mono HJ.out.size)⟩
            · have hm0 := hp rfl
              have hm0i : (0 : Int) < (m : Int) := by omega
              obtain ⟨t, ht⟩ : ∃ t : Nat, Hid (at_ % (m : Int) = (t : Int)) := ⟨(at_ % (m : Int)).toNat, by
                have := Int.emod_nonneg at_ (show (m : Int) ≠ 0 by omega)
                show _ = _
                omega⟩
              have htm : t < m := by
                have := Int.emod_lt_of_pos at_ hm0i
                rw [ht.out] at this
                omega
              have htmi : (t : Int) < (m : Int) := by omega
              have HPk : Hid (∀ W, Calls Tryd.prog 19 #[.int .i64 at_, .int .i64 (m : Int)] W fun e w' => e = .returned (.int .i64 (t : Int)) ∧ W = w') := fun W => by
                have := pick_any at_ (m : Int) W hm0i (by omega)
                rwa [ht.out] at this
              have hof := H9.out.1.2
              rcases hof with ⟨_, h0⟩ | ⟨g, cap, cur, hv, hg, _⟩
              · omega
              · simp only [Value.slice.injEq] at hv
                obtain ⟨rfl, _, rfl⟩ := hv
                have htw : t < wb.length := by rw [hm.out]; exact htm
                obtain ⟨x, hx⟩ : ∃ x, Hid (wb[t] = x) := ⟨wb[t], rfl⟩
                have hload : w9.cell? ⟨g, t, none⟩ = some (.int .u8 (x : Int)) := by
                  rw [H9.out.1.cellAt t (by omega)]
                  simp [bv, htw, hx.out]
                have hfro : w9.frozen? ⟨g, t, none⟩ = false := H9.out.1.frozenAt t
                obtain ⟨d, hd⟩ : ∃ d : Nat, Hid (bits .xor .u8 (x : Int) with_ = (d : Int)) := ⟨(bits .xor .u8 (x : Int) with_).toNat, by
                  show _ = _
                  have h0 : 0 ≤ bits .xor .u8 (x : Int) with_ := by unfold bits; simp only [IntKind.wrap_u8]; omega
                  omega⟩
                have hd256 : d < 256 := by
                  have h0 : bits .xor .u8 (x : Int) with_ < 256 := by unfold bits; simp only [IntKind.wrap_u8]; omega
                  rw [hd.out] at h0
                  omega
                have hst := H9.out.1.stored t (.int .u8 (bits .xor .u8 (x : Int) with_))
                have HST : Hid ((w9.setCell ⟨g, t, none⟩ (.int .u8 (bits .xor .u8 (x : Int) with_))).ownsRow wr.heap.size 5 1 (.slice (some ⟨g, 0, none⟩) m c21) m (bv (wb.set t d)) ∧ Below w7.heap.size w7 (w9.setCell ⟨g, t, none⟩ (.int .u8 (bits .xor .u8 (x : Int) with_)))) := by
                  refine ⟨?_, (HJ.out.trans (H9.out.2.2.mono HJ.out.size)).setCell (by have := HJ.out.size; simp; omega) _⟩
                  have := hst.1
                  rw [hd.out] at this ⊢
                  rw [show bv (wb.set t d) = (bv wb).set t (.int .u8 (d : Int)) by simp [bv, List.map_set]]
                  exact this
                have hlt2 : Hid (∀ c ∈ wb.set t d, c < 256) := fun c hc => by
                  rcases List.mem_or_eq_of_mem_set hc with h | rfl
                  · exact hwlt.out c h
                  · exact hd256
                clear hst hg
                go_wp2_with fail
                refine (HPk.out _).mono ?_; rintro e w' ⟨rfl, rfl⟩
                go_wp2_with fail
                go_meet
                case rel =>
                  obtain ⟨Aq, cq, eq, _, _, _, hr⟩ := own_form HST.out.1
                  simp only [Value.slice.injEq] at eq
                  obtain ⟨rfl, _, rfl⟩ := eq
                  exact ⟨wb.set t d, rfl, hr, hlt2.out, HST.out.2⟩
          case rest =>
            obtain ⟨wb2, rfl, H21⟩ := hcut
            have hl21 : Hid (wb2.length = m) := hid_mk (by have := H21.out.1.1; simpa [bv] using this)
            go_upto_if 93 with fail
            go_cut [21] (fun v wx => wx = wc ∧ ∃ A3 c3, ∃ zc : List Nat, v = .slice A3 zc.length c3 ∧ zc.length ≤ 60 ∧ zc.length ≤ c3 ∧ Hid (Rd wc wc.heap.size A3 zc.length (bv zc) ∧ (∀ c ∈ zc, c < 256)))
            case first =>
              by_cases h4 : cut.tmod 4 = 0
              · have h4b : (cut.tmod 4 == 0) = true := by simpa using h4
                clear h4
                obtain ⟨p2, hp2⟩ : ∃ p2 : Nat, Hid (cut % ((m : Int) + 1) = (p2 : Int)) := ⟨(cut % ((m : Int) + 1)).toNat, by
                  have := Int.emod_nonneg cut (show (m : Int) + 1 ≠ 0 by omega)
                  show _ = _
                  omega⟩
                have hp2m : p2 ≤ m := by
                  have := Int.emod_lt_of_pos cut (show (0 : Int) < (m : Int) + 1 by omega)
                  rw [hp2.out] at this
                  omega
                have HPk : Hid (∀ W, Calls Tryd.prog 19 #[.int .i64 cut, .int .i64 ((m : Int) + 1)] W fun e w' => e = .returned (.int .i64 (p2 : Int)) ∧ W = w') := fun W => by
                  have := pick_any cut ((m : Int) + 1) W (by omega) (by omega)
                  rwa [hp2.out] at this
                have hp2c : (p2 : Int) ≤ (c21 : Int) := by omega
                have hzl : Hid ((wb2.take p2).length = p2) := hid_mk (by rw [List.length_take, hl21.out]; omega)
                have hzr : Hid (Rd wc wc.heap.size A21 p2 (bv (wb2.take p2))) := hid_mk (by
                  have := H21.out.1.head p2 hp2m
                  rwa [show (bv wb2).take p2 = bv (wb2.take p2) by simp [bv]] at this)
                go_wp2_with fail
                refine (HPk.out _).mono ?_; rintro e w' ⟨rfl, rfl⟩
                go_wp2_with fail
                go_meet
                case rel => exact ⟨rfl, A21, c21, wb2.take p2, by rw [hzl.out], by rw [hzl.out]; omega, by rw [hzl.out]; omega, by rw [hzl.out]; exact hzr.out, fun c hc => H21.out.2.1 c (List.mem_of_mem_take hc)⟩
              · have h4b : (cut.tmod 4 == 0) = false := by simpa using h4
                clear h4
                go_wp2_with fail
                go_meet
                case rel => exact ⟨rfl, A21, c21, wb2, by rw [hl21.out], by rw [hl21.out]; omega, by rw [hl21.out]; omega, by rw [hl21.out]; exact H21.out.1, H21.out.2.1⟩
            case rest =>
              obtain ⟨hw, A3, c3, zc, rfl, hz60, hz3, HZ3⟩ := hcut
              subst hw
              have HBa : Hid (Below w7.heap.size w7 wc) := H21.out.2.2
              have HT1 := Lib.hid ((vtake_any zc wc.heap.size A3 c3 wc HZ3.out.1 (Nat.le_refl _) HZ3.out.2 hz3 (by omega)).mono fun e w' h => takeQ h)
              go_wp2_with fail
              refine HT1.out.mono ?_; rintro e w10 ⟨A23, c23, rfl, H10⟩
              have HT2 := Lib.hid ((rtake_any zc wc.heap.size A3 c3 w10 (HZ3.out.1.below H10.out.2 (Nat.le_refl _)) H10.out.2.size HZ3.out.2 hz3 (by omega)).mono fun e w' h => takeQ h)
              go_wp2_with fail
              refine HT2.out.mono ?_; rintro e w11 ⟨A26, c26, rfl, H11⟩
              clear HT1 HT2
              obtain ⟨r9, hr9⟩ : ∃ z, Hid (count % 9 = z) := ⟨_, rfl⟩
              have r0 : 0 ≤ r9 := by have := hr9.out; omega
              have r1 : r9 < 9 := by have := hr9.out; omega
              have HPk : Hid (∀ W, Calls Tryd.prog 19 #[.int .i64 count, .int .i64 9] W fun e w' => e = .returned (.int .i64 r9) ∧ W = w') := fun W => by
                have := pick_any count 9 W (by decide) (by decide)
                rwa [hr9.out] at this
              go_wp2_with fail
              refine (HPk.out _).mono ?_; rintro e w' ⟨rfl, rfl⟩
              have HBc : Hid (Below wc.heap.size wc w11) := H10.out.2.trans (H11.out.2.mono H10.out.2.size)
              have HT3 := Lib.hid ((vtakes_any zc A3 c3 (r9 - 2) w11 (by omega) ((HZ3.out.1.below HBc.out (Nat.le_refl _)).more HBc.out.size) HZ3.out.2 hz3 (by omega)).mono fun e w' h => takesQ h)
              obtain ⟨T, hT⟩ : ∃ f, Hid (takesL zc (r9 - 2) = f) := ⟨_, rfl⟩
              have hTl : T.length ≤ 7 := by
                rw [← hT.out]
                unfold takesL
                rcases hd : decs (r9 - 2).toNat zc with _ | ⟨l1, r1'⟩
                · simp
                · have := (decs_len _ _ _ _ hd).1
                  simp only
                  omega
              go_wp2_with fail
              refine HT3.out.mono ?_; rintro e w12 ⟨A29, c29, A30, c30, rfl, H12⟩
              have HB12 : Hid (Below wc.heap.size wc w12) := HBc.out.trans (H12.out.2.2.mono HBc.out.size)
              have HT4 := Lib.hid ((rtakes_any zc wc.heap.size A3 c3 (r9 - 2) w12 (by omega) (HZ3.out.1.below HB12.out (Nat.le_refl _)) HB12.out.size HZ3.out.2 hz3 (by omega)).mono fun e w' h => takesQ h)
              go_wp2_with fail
              refine HT4.out.mono ?_; rintro e w13 ⟨A32, c32, A33, c33, rfl, H13⟩
              clear HT3 HT4
              rw [hT.out] at H12 H13 ⊢
              have k23 := conv_run (P := Tryd.prog) w13 22 9 5 Tryd.underlying22 Tryd.underlying5 Tryd.underlying9 w10.heap.size A23 (takeR zc).length c23 (takeR zc) (H10.out.1.below (H11.out.2.trans ((H12.out.2.2.trans (H13.out.2.2.mono H12.out.2.2.size)).mono H11.out.2.size)) (Nat.le_refl _))
              have k26 := conv_run (P := Tryd.prog) w13 22 9 5 Tryd.underlying22 Tryd.underlying5 Tryd.underlying9 w11.heap.size A26 (takeR zc).length c26 (takeR zc) (H11.out.1.below (H12.out.2.2.trans (H13.out.2.2.mono H12.out.2.2.size)) (Nat.le_refl _))
              have k30 := conv_run (P := Tryd.prog) w13 22 9 5 Tryd.underlying22 Tryd.underlying5 Tryd.underlying9 w12.heap.size A30 (takesR zc (r9 - 2)).length c30 (takesR zc (r9 - 2)) (H12.out.2.1.below H13.out.2.2 (Nat.le_refl _))
              have k33 := conv_run (P := Tryd.prog) w13 22 9 5 Tryd.underlying22 Tryd.underlying5 Tryd.underlying9 w13.heap.size A33 (takesR zc (r9 - 2)).length c33 (takesR zc (r9 - 2)) H13.out.2.1
              have HR29 : Hid (Rd w13 w13.heap.size A29 T.length (natsV T)) := (H12.out.1.below H13.out.2.2 (Nat.le_refl _)).more H13.out.2.2.size
              have HB13 : Hid (Below w7.heap.size w7 w13) := HBa.out.trans ((HB12.out.trans (H13.out.2.2.mono HB12.out.size)).mono HBa.out.size)
              go_wp2_with fail
              clear k23 k26 k30 k33
              go_loopw [166] (fun i wz => ∃ t : Nat, t ≤ T.length ∧ i = .int .i64 t ∧ Hid (Below w13.heap.size w13 wz)) (fun i _ => T.length - (intOf i).toNat)
              case atStart => exact ⟨0, Nat.zero_le _, rfl, Below.refl _ _⟩
              case round =>
                obtain ⟨tk, htk, rfl, HW⟩ := hrel
                by_cases hlt : tk < T.length
                · have hlti : (tk : Int) < (T.length : Int) := by omega
                  have hltd : decide (tk < T.length) = true := by simpa using hlt
                  obtain ⟨x, hx⟩ : ∃ x, Hid (T[tk] = x) := ⟨T[tk], rfl⟩
                  obtain ⟨b1', o1', hA29, hb1', hc1'⟩ := HR29.out.2 (by omega)
                  obtain ⟨b2', o2', hA32, hb2', hc2'⟩ := H13.out.1.2 (by omega)
                  have hg : (natsV T)[tk]? = some (.int .i64 (x : Int)) := by simp [natsV, hlt, hx.out]
                  have hcell1 := (HW.out.cell (p := ⟨b1', o1' + tk, none⟩) hb1').trans (hc1' tk _ hg)
                  have hcell2 := (HW.out.cell (p := ⟨b2', o2' + tk, none⟩) hb2').trans (hc2' tk _ hg)
                  subst hA29
                  subst hA32
                  clear hc1' hc2' hg hb1' hb2'
                  go_wp2_with fail
                  go_quiet (fail)
                  have HB9 : Hid (Below w13.heap.size w13 (wr.drewN nq)) := hid_mk ⟨HW.out.os, HW.out.tape, HW.out.output, HW.out.size, HW.out.block⟩
                  clear hcell1 hcell2
                  go_wp2_with fail
                  go_roundw
                  case rel => exact ⟨tk + 1, by omega, by go_num, HB9.out⟩
                  case measure => simp [intOf]; omega
                · have hlti : ¬ (tk : Int) < (T.length : Int) := by omega
                  have hltd : decide (tk < T.length) = false := by simpa using hlt
                  have HE : Hid (Below w7.heap.size w7 wr) := HB13.out.trans (HW.out.mono HB13.out.size)
                  go_wp2_with fail
                  go_roundg (2 - j)
                  case measure => omega
                  case rel => exact ⟨j + 1, by omega, by go_num, HE.out⟩
    · obtain rfl : j = 3 := by omega
      go_wp2_with fail
      refine (known_any HLd.out (HBw7.out.trans (HJ.out.mono HBw7.out.size))).mono ?_; rintro e w99 ⟨rfl, hb99⟩
      have HB99 := Lib.hid hb99
      clear hb99 hx0 hx1 hx2
      go_wp2
      go_ret
      exact ⟨rfl, (HBw7.out.trans (HJ.out.mono HBw7.out.size)).trans (HB99.out.mono (Nat.le_trans HBw7.out.size HJ.out.size))⟩
theorem walk' (A0 : Option Addr) (c0 : Nat) (l0 : List Nat) (A1 : Option Addr) (c1 : Nat) (l1 : List Int) (A2 : Option Addr) (c2 : Nat) (l2 : List Nat) (a3 a4 a5 a6 : Int) (W : World) (hL : laidMetH Tryd.prog laids W) (w0 : IsBytes W A0 c0 l0) (w1 : IsInts W A1 c1 l1) (w2 : IsBytes W A2 c2 l2)
    (_ : -9223372036854775808 ≤ a3) (_ : a3 ≤ 9223372036854775807) (_ : -9223372036854775808 ≤ a4) (_ : a4 ≤ 9223372036854775807) (h1 : -9223372036854775808 ≤ a5) (h2 : a5 ≤ 9223372036854775807) (h3 : 0 ≤ a6) (h4 : a6 ≤ 255) :
    Calls Tryd.prog 4 #[.slice A0 l0.length c0, .slice A1 l1.length c1, .slice A2 l2.length c2, .int .i64 a3, .int .i64 a4, .int .i64 a5, .int .u8 a6] W fun e w' => e = .returned (.bool true) ∧ Below W.heap.size W w' :=
  walk l0 A0 c0 l1 A1 c1 l2 A2 c2 a3 a4 a5 a6 W hL w0 w1 w2 h1 h2 h3 h4
end Go.Proofs.YtmdmkjkdfagcfaaDoor.Tells
