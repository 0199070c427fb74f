/- NewWindow, Good, Bad, Fits of the reference: contracts. Conditions: as each theorem lists them. -/
import Derived.Test.YtebfjphmlggacaaGreatJCa
import Derived.Deep.DeepCutAuto
import Derived.Deep.CutBlock
import Derived.Laws.Rows
set_option linter.unusedSimpArgs false
set_option linter.unusedVariables false

namespace Go.Proofs.YtebfjphmlggacaaGreat.Cg
open Go Go.RowKit Go.Proofs.YtebfjphmlggacaaGreat

set_option maxRecDepth 100000 in
theorem rfits_any (w : World) (p o : Nat) (T : TypeId) (cur : Array Value) (s : Win) (h : WinIn w p o T cur s) (n : Int) :
    Calls Tryz.prog 57 #[.pointer (some ⟨p, o, none⟩), .int .i64 n] w fun e w' => e = .returned (.bool (decide (n < s.size))) ∧ w' = w := by
  have hc := h.cell.1
  clear h
  go_enter Tryz.func57, Tryz.ntmps57
  go_wp2
  go_ret
  exact ⟨rfl, rfl⟩

set_option maxRecDepth 100000 in
set_option maxHeartbeats 2000000 in
theorem rbad_any (w : World) (p o : Nat) (T : TypeId) (cur : Array Value) (s : Win) (h : WinIn w p o T cur s) (hok : OkW s) (num next : Int) :
    Calls Tryz.prog 46 #[.pointer (some ⟨p, o, none⟩), .int .i64 num, .int .i64 next] w fun e w' => e = .returned (.tuple #[]) ∧ ∃ cur', WinIn w' p o T cur' (badS s num next) ∧ CurSame o cur cur' ∧ w.grownBy w' (some p) := by
  have H := Lib.hid h
  have hc := h.cell.2.2.2
  have h2 := hok.s2
  have h32 := hok.s32
  by_cases hn : num < s.till
  · have HE : Hid (badS s num next = s) := if_pos hn
    rw [HE.out]
    clear h hok
    go_enter Tryz.func46, Tryz.ntmps46
    go_wp2_with fail
    exact bodyPost_ret (v := .tuple #[]) (by simp [results, Tryz.results46, go_sem]) rfl ⟨rfl, _, H.out, CurSame.refl _ _, grown_refl _ _⟩
  · obtain ⟨hc0, hc1, hc2, hc3⟩ := h.cell
    have hf := h.free
    have e2 : s.size.tdiv 2 = s.size / 2 := Int.tdiv_eq_ediv_of_nonneg (by omega)
    have HE : Hid (badS s num next = ⟨max (s.size.tdiv 2) 2, max (s.size.tdiv 2) 2, 0, next⟩) := if_neg hn
    rw [HE.out]
    obtain ⟨x, hx⟩ : ∃ x, s.size / 2 = x := ⟨_, rfl⟩
    rw [e2, hx]
    have hxs : 0 ≤ s.size := by omega
    clear e2 HE
    rcases Int.lt_trichotomy x 2 with h2x | h2x | h2x
    · have h2y : ¬ 2 < x := by omega
      have h2z : ¬ 2 ≤ x := by omega
      rw [Int.max_eq_right (by omega)]
      have HW1 := h.set1 2
      have HW2 := HW1.set0 2
      have HW3 := HW2.set2 0
      have HW4 := HW3.set3 next
      have d1 := HW1.cell
      have d2 := HW2.cell
      have d3 := HW3.cell
      have g1 := HW1.free
      have g2 := HW2.free
      have g3 := HW3.free
      obtain ⟨d10, d11, d12, d13⟩ := d1
      obtain ⟨d20, d21, d22, d23⟩ := d2
      obtain ⟨d30, d31, d32, d33⟩ := d3
      have HF : Hid (WinIn ((((w.setCell ⟨p, o + 1, none⟩ (.int .i64 2)).setCell ⟨p, o, none⟩ (.int .i64 2)).setCell ⟨p, o + 2, none⟩ (.int .i64 0)).setCell ⟨p, o + 3, none⟩ (.int .i64 next)) p o T ((((cur.setIfInBounds (o + 1) (.int .i64 2)).setIfInBounds o (.int .i64 2)).setIfInBounds (o + 2) (.int .i64 0)).setIfInBounds (o + 3) (.int .i64 next)) ⟨2, 2, 0, next⟩ ∧ CurSame o cur ((((cur.setIfInBounds (o + 1) (.int .i64 2)).setIfInBounds o (.int .i64 2)).setIfInBounds (o + 2) (.int .i64 0)).setIfInBounds (o + 3) (.int .i64 next)) ∧ w.grownBy ((((w.setCell ⟨p, o + 1, none⟩ (.int .i64 2)).setCell ⟨p, o, none⟩ (.int .i64 2)).setCell ⟨p, o + 2, none⟩ (.int .i64 0)).setCell ⟨p, o + 3, none⟩ (.int .i64 next)) (some p)) :=
        ⟨HW4, ((((CurSame.refl o cur).set (o + 1) (by omega) _).set o (by omega) _).set (o + 2) (by omega) _).set (o + 3) (by omega) _, grown_set (grown_set (grown_set (grown_set (grown_refl _ _) _ _) _ _) _ _) _ _⟩
      clear h hok HW1 HW2 HW3 HW4 H
      go_enter Tryz.func46, Tryz.ntmps46
      go_wp2_with fail
      first | go_end0 | go_ret
      exact ⟨rfl, _, HF.out⟩
    · subst h2x
      rw [show max (2 : Int) 2 = 2 from rfl]
      have HW1 := h.set1 2
      have HW2 := HW1.set0 2
      have HW3 := HW2.set2 0
      have HW4 := HW3.set3 next
      have d1 := HW1.cell
      have d2 := HW2.cell
      have d3 := HW3.cell
      have g1 := HW1.free
      have g2 := HW2.free
      have g3 := HW3.free
      obtain ⟨d10, d11, d12, d13⟩ := d1
      obtain ⟨d20, d21, d22, d23⟩ := d2
      obtain ⟨d30, d31, d32, d33⟩ := d3
      have HF : Hid (WinIn ((((w.setCell ⟨p, o + 1, none⟩ (.int .i64 2)).setCell ⟨p, o, none⟩ (.int .i64 2)).setCell ⟨p, o + 2, none⟩ (.int .i64 0)).setCell ⟨p, o + 3, none⟩ (.int .i64 next)) p o T ((((cur.setIfInBounds (o + 1) (.int .i64 2)).setIfInBounds o (.int .i64 2)).setIfInBounds (o + 2) (.int .i64 0)).setIfInBounds (o + 3) (.int .i64 next)) ⟨2, 2, 0, next⟩ ∧ CurSame o cur ((((cur.setIfInBounds (o + 1) (.int .i64 2)).setIfInBounds o (.int .i64 2)).setIfInBounds (o + 2) (.int .i64 0)).setIfInBounds (o + 3) (.int .i64 next)) ∧ w.grownBy ((((w.setCell ⟨p, o + 1, none⟩ (.int .i64 2)).setCell ⟨p, o, none⟩ (.int .i64 2)).setCell ⟨p, o + 2, none⟩ (.int .i64 0)).setCell ⟨p, o + 3, none⟩ (.int .i64 next)) (some p)) :=
        ⟨HW4, ((((CurSame.refl o cur).set (o + 1) (by omega) _).set o (by omega) _).set (o + 2) (by omega) _).set (o + 3) (by omega) _, grown_set (grown_set (grown_set (grown_set (grown_refl _ _) _ _) _ _) _ _) _ _⟩
      clear h hok HW1 HW2 HW3 HW4 H
      go_enter Tryz.func46, Tryz.ntmps46
      go_wp2_with fail
      first | go_end0 | go_ret
      exact ⟨rfl, _, HF.out⟩
    · have h2y : ¬ x < 2 := by omega
      have h2z : ¬ x ≤ 2 := by omega
      rw [Int.max_eq_left (by omega)]
      have HW1 := h.set1 x
      have HW2 := HW1.set0 x
      have HW3 := HW2.set2 0
      have HW4 := HW3.set3 next
      have d1 := HW1.cell
      have d2 := HW2.cell
      have d3 := HW3.cell
      have g1 := HW1.free
      have g2 := HW2.free
      have g3 := HW3.free
      obtain ⟨d10, d11, d12, d13⟩ := d1
      obtain ⟨d20, d21, d22, d23⟩ := d2
      obtain ⟨d30, d31, d32, d33⟩ := d3
      have HF : Hid (WinIn ((((w.setCell ⟨p, o + 1, none⟩ (.int .i64 x)).setCell ⟨p, o, none⟩ (.int .i64 x)).setCell ⟨p, o + 2, none⟩ (.int .i64 0)).setCell ⟨p, o + 3, none⟩ (.int .i64 next)) p o T ((((cur.setIfInBounds (o + 1) (.int .i64 x)).setIfInBounds o (.int .i64 x)).setIfInBounds (o + 2) (.int .i64 0)).setIfInBounds (o + 3) (.int .i64 next)) ⟨x, x, 0, next⟩ ∧ CurSame o cur ((((cur.setIfInBounds (o + 1) (.int .i64 x)).setIfInBounds o (.int .i64 x)).setIfInBounds (o + 2) (.int .i64 0)).setIfInBounds (o + 3) (.int .i64 next)) ∧ w.grownBy ((((w.setCell ⟨p, o + 1, none⟩ (.int .i64 x)).setCell ⟨p, o, none⟩ (.int .i64 x)).setCell ⟨p, o + 2, none⟩ (.int .i64 0)).setCell ⟨p, o + 3, none⟩ (.int .i64 next)) (some p)) :=
        ⟨HW4, ((((CurSame.refl o cur).set (o + 1) (by omega) _).set o (by omega) _).set (o + 2) (by omega) _).set (o + 3) (by omega) _, grown_set (grown_set (grown_set (grown_set (grown_refl _ _) _ _) _ _) _ _) _ _⟩
      clear h hok HW1 HW2 HW3 HW4 H
      go_enter Tryz.func46, Tryz.ntmps46
      go_wp2_with fail
      first | go_end0 | go_ret
      exact ⟨rfl, _, HF.out⟩

set_option maxRecDepth 100000 in
set_option maxHeartbeats 4000000 in
theorem rgood_any (w : World) (p o : Nat) (T : TypeId) (cur : Array Value) (s : Win) (h : WinIn w p o T cur s) (hok : OkW s) (n : Int) (hn : -9223372036854775808 ≤ n ∧ n ≤ 9223372036854775807) :
    Calls Tryz.prog 36 #[.pointer (some ⟨p, o, none⟩), .int .i64 n] w fun e w' => e = .returned (.tuple #[]) ∧ ∃ cur', WinIn w' p o T cur' (goodN n.toNat s) ∧ CurSame o cur cur' ∧ w.grownBy w' (some p) := by
  have H := Lib.hid h
  have HOK := Lib.hid hok
  obtain ⟨hn1, hn2⟩ := hn
  clear h hok
  go_enter Tryz.func36, Tryz.ntmps36
  go_wp2_with fail
  go_loopw [1] (fun i wr => ∃ r : Int, i = .int .i64 r ∧ r ≤ n ∧ -9223372036854775808 ≤ r ∧ Hid (∃ st cur', goodN r.toNat st = goodN n.toNat s ∧ OkW st ∧ WinIn wr p o T cur' st ∧ CurSame o cur cur' ∧ w.grownBy wr (some p))) (fun i _ => (intOf i).toNat)
  case atStart => exact ⟨n, rfl, Int.le_refl _, hn1, s, cur, rfl, HOK.out, H.out, CurSame.refl _ _, grown_refl _ _⟩
  case round =>
    obtain ⟨r, rfl, hr, hr1, HK⟩ := hrel
    obtain ⟨st, cur', hg, hok, hw, hcs, hgr⟩ := HK.out
    clear HK
    by_cases h0 : 0 < r
    · obtain ⟨k, hk⟩ : ∃ k : Nat, r = (k : Int) + 1 := ⟨(r - 1).toNat, by omega⟩
      have hrk : r.toNat = k + 1 := by omega
      have hr1k : (r - 1).toNat = k := by omega
      rw [hrk] at hg
      have hg : goodN k (goodS st) = goodN n.toNat s := hg
      have hok' := hok.good
      obtain ⟨s2, s32, l2, l32, p0, ps⟩ := hok
      obtain ⟨sz, sl, pt, ti⟩ := st
      simp only at s2 s32 l2 l32 p0 ps
      obtain ⟨c0, c1, c2, c3⟩ := hw.cell
      have hf := hw.free
      simp only at c0 c1 c2 c3
      have HG := Lib.hid hg
      have HO := Lib.hid hok'
      have HW := Lib.hid hw
      have HC := Lib.hid hcs
      have HGR := Lib.hid hgr
      clear hg hok' hw hcs hgr hk hrk
      have HR1K := Lib.hid hr1k
      clear hr1k
      go_wp2_with fail
      by_cases ha : sz < sl
      · have hd : decide (sz < sl) = true := decide_eq_true ha
        have hm : sz + 1 ≤ 32 := by omega
        have HS : Hid (goodS ⟨sz, sl, pt, ti⟩ = ⟨sz + 1, sl, pt, ti⟩) := by
          show _ = _
          unfold goodS
          rw [if_pos ha]
          simp only
          rw [Int.min_eq_left hm]
        rw [HS.out] at HG HO
        go_quiet (fail)
        obtain ⟨w2, hw2⟩ : ∃ x, wr.drewN nq = x := ⟨_, rfl⟩
        have hx2 := HW.out.drewN nq
        have hg2 := grown_drew HGR.out nq
        rw [hw2] at hx2 hg2 ⊢
        have x1 := hx2.set0 (sz + 1)
        have x2 := x1.set0 (sz + 1)
        obtain ⟨e0, e1, e2, e3⟩ := hx2.cell
        obtain ⟨y0, y1, y2, y3⟩ := x1.cell
        have hf2 := hx2.free
        have hf3 := x1.free
        simp only at e0 e1 e2 e3 y0 y1 y2 y3 x2
        have HN' : Hid (∃ st cur', goodN (r - 1).toNat st = goodN n.toNat s ∧ OkW st ∧ WinIn ((w2.setCell ⟨p, o, none⟩ (.int .i64 (sz + 1))).setCell ⟨p, o, none⟩ (.int .i64 (sz + 1))) p o T cur' st ∧ CurSame o cur cur' ∧ w.grownBy ((w2.setCell ⟨p, o, none⟩ (.int .i64 (sz + 1))).setCell ⟨p, o, none⟩ (.int .i64 (sz + 1))) (some p)) :=
          ⟨_, _, by rw [HR1K.out]; exact HG.out, HO.out, x2, (HC.out.set o (by omega) _).set o (by omega) _, grown_set (grown_set hg2 _ _) _ _⟩
        clear hw2 hx2 hg2 x1 x2 c0 c1 c2 c3 hf HW HC HGR HG HO HS
        go_wp2_with fail
        refine ⟨⟨r - 1, by first | rfl | go_num, by omega, by omega, HN'⟩, ?_⟩
        simp [intOf]; omega
      · have hd : decide (sz < sl) = false := decide_eq_false ha
        go_quiet (fail)
        obtain ⟨w2, hw2⟩ : ∃ x, wr.drewN nq = x := ⟨_, rfl⟩
        have hx2 := HW.out.drewN nq
        have hg2 := grown_drew HGR.out nq
        rw [hw2] at hx2 hg2 ⊢
        have x1 := hx2.set2 (pt + 1)
        have hg3 := grown_set hg2 (o + 2) (.int .i64 (pt + 1))
        obtain ⟨e0, e1, e2, e3⟩ := hx2.cell
        have hf2 := hx2.free
        simp only at e0 e1 e2 e3
        clear c0 c1 c2 c3 hf hw2
        go_upto_region 5 with (fail)
        obtain ⟨w3, hw3⟩ : ∃ x, w2.setCell ⟨p, o + 2, none⟩ (.int .i64 (pt + 1)) = x := ⟨_, rfl⟩
        rw [hw3] at x1 hg3 ⊢
        obtain ⟨y0, y1, y2, y3⟩ := x1.cell
        simp only at y0 y1 y2 y3
        clear hw3 e0 e1 e2 e3 hf2 hx2 hg2
        by_cases hb : pt + 1 = sz
        · have HBE := Lib.hid hb
          have hd2 : (pt + 1 == sz) = true := by simp [hb]
          clear hb
          go_quiet (fail)
          obtain ⟨w4, hw4⟩ : ∃ x, w3.drewN nq = x := ⟨_, rfl⟩
          have x2 := x1.drewN nq
          have hg4 := grown_drew hg3 nq
          rw [hw4] at x2 hg4 ⊢
          have x3 := x2.set0 (sz + 1)
          have x4 := x3.set2 0
          obtain ⟨e0, e1, e2, e3⟩ := x2.cell
          obtain ⟨z0, z1, z2, z3⟩ := x3.cell
          obtain ⟨v0, v1, v2, v3⟩ := x4.cell
          have hf2 := x2.free
          have hf3 := x3.free
          have hf4 := x4.free
          simp only at e0 e1 e2 e3 z0 z1 z2 z3 v0 v1 v2 v3
          have HGS : Hid (goodS ⟨sz, sl, pt, ti⟩ = ⟨min (sz + 1) 32, sl, 0, ti⟩) := by
            show _ = _
            unfold goodS
            rw [if_neg ha, if_pos HBE.out]
          rw [HGS.out] at HG HO
          by_cases hm : sz + 1 ≤ 32
          · rw [Int.min_eq_left hm] at HG HO
            have x5 := x4.set0 (sz + 1)
            have HN' : Hid (∃ st cur', goodN (r - 1).toNat st = goodN n.toNat s ∧ OkW st ∧ WinIn (((w4.setCell ⟨p, o, none⟩ (.int .i64 (sz + 1))).setCell ⟨p, o + 2, none⟩ (.int .i64 0)).setCell ⟨p, o, none⟩ (.int .i64 (sz + 1))) p o T cur' st ∧ CurSame o cur cur' ∧ w.grownBy (((w4.setCell ⟨p, o, none⟩ (.int .i64 (sz + 1))).setCell ⟨p, o + 2, none⟩ (.int .i64 0)).setCell ⟨p, o, none⟩ (.int .i64 (sz + 1))) (some p)) :=
              ⟨_, _, by rw [HR1K.out]; exact HG.out, HO.out, x5, (((HC.out.set (o + 2) (by omega) _).set o (by omega) _).set (o + 2) (by omega) _).set o (by omega) _, grown_set (grown_set (grown_set hg4 _ _) _ _) _ _⟩
            clear hw4 x1 x2 x3 x4 x5 hg3 hg4 y0 y1 y2 y3 HW HC HGR HG HO HGS HBE
            go_wp2_with fail
            refine ⟨⟨r - 1, by first | rfl | go_num, by omega, by omega, HN'⟩, ?_⟩
            simp [intOf]; omega
          · have hm' : 32 ≤ sz + 1 := by omega
            have hm2 : ¬ sz + 1 < 32 := by omega
            rw [Int.min_eq_right hm'] at HG HO
            have x5 := x4.set0 (32)
            have HN' : Hid (∃ st cur', goodN (r - 1).toNat st = goodN n.toNat s ∧ OkW st ∧ WinIn (((w4.setCell ⟨p, o, none⟩ (.int .i64 (sz + 1))).setCell ⟨p, o + 2, none⟩ (.int .i64 0)).setCell ⟨p, o, none⟩ (.int .i64 (32))) p o T cur' st ∧ CurSame o cur cur' ∧ w.grownBy (((w4.setCell ⟨p, o, none⟩ (.int .i64 (sz + 1))).setCell ⟨p, o + 2, none⟩ (.int .i64 0)).setCell ⟨p, o, none⟩ (.int .i64 (32))) (some p)) :=
              ⟨_, _, by rw [HR1K.out]; exact HG.out, HO.out, x5, (((HC.out.set (o + 2) (by omega) _).set o (by omega) _).set (o + 2) (by omega) _).set o (by omega) _, grown_set (grown_set (grown_set hg4 _ _) _ _) _ _⟩
            clear hw4 x1 x2 x3 x4 x5 hg3 hg4 y0 y1 y2 y3 HW HC HGR HG HO HGS HBE
            go_wp2_with fail
            refine ⟨⟨r - 1, by first | rfl | go_num, by omega, by omega, HN'⟩, ?_⟩
            simp [intOf]; omega
        · have hd2 : (pt + 1 == sz) = false := by simp [hb]
          have hm : sz ≤ 32 := s32
          have HS : Hid (goodS ⟨sz, sl, pt, ti⟩ = ⟨sz, sl, pt + 1, ti⟩) := by
            show _ = _
            unfold goodS
            rw [if_neg ha, if_neg hb]
            simp only
            rw [Int.min_eq_left hm]
          rw [HS.out] at HG HO
          go_quiet (fail)
          obtain ⟨w4, hw4⟩ : ∃ x, w3.drewN nq = x := ⟨_, rfl⟩
          have x2 := x1.drewN nq
          have hg4 := grown_drew hg3 nq
          rw [hw4] at x2 hg4 ⊢
          have x3 := x2.set0 sz
          obtain ⟨e0, e1, e2, e3⟩ := x2.cell
          have hf2 := x2.free
          simp only at e0 e1 e2 e3 x3
          have HN' : Hid (∃ st cur', goodN (r - 1).toNat st = goodN n.toNat s ∧ OkW st ∧ WinIn (w4.setCell ⟨p, o, none⟩ (.int .i64 sz)) p o T cur' st ∧ CurSame o cur cur' ∧ w.grownBy (w4.setCell ⟨p, o, none⟩ (.int .i64 sz)) (some p)) :=
            ⟨_, _, by rw [HR1K.out]; exact HG.out, HO.out, x3, (HC.out.set (o + 2) (by omega) _).set o (by omega) _, grown_set hg4 _ _⟩
          clear hw4 x1 x2 x3 hg3 hg4 y0 y1 y2 y3 HW HC HGR HG HO HS
          go_wp2_with fail
          refine ⟨⟨r - 1, by first | rfl | go_num, by omega, by omega, HN'⟩, ?_⟩
          simp [intOf]; omega
    · have hr0 : r.toNat = 0 := by omega
      rw [hr0] at hg
      have hg : st = goodN n.toNat s := hg
      have HF := Lib.hid (And.intro hw (And.intro hcs hgr))
      subst hg
      clear hw hcs hgr hok
      go_wp2_with fail
      first | go_end0 | go_ret
      exact ⟨rfl, _, HF.out⟩

set_option maxRecDepth 100000 in
theorem rnew_any (w : World) : Calls Tryz.prog 28 #[] w fun e w' => e = .returned (.agg #[.int .i64 4, .int .i64 32, .int .i64 0, .int .i64 0]) ∧ Below w.heap.size w w' := by
  have HB : Hid (Below w.heap.size w (w.alloc (.cells #[.int .i64 4, .int .i64 32, .int .i64 0, .int .i64 0] 41))) := (Below.refl _ _).alloc (Nat.le_refl _) _
  have hh := heap_alloc_new w (.cells #[.int .i64 4, .int .i64 32, .int .i64 0, .int .i64 0] 41)
  have HH := Lib.hid hh
  clear hh
  go_enter Tryz.func28, Tryz.ntmps28
  go_wp2_with fail
  refine bodyPost_ret (results_cell_row rfl _ _ w.heap.size 41 _ (0, 0) _ rfl HH.out Tryz.underlying41 rfl (by kernel_rfl)) rfl ?_
  exact ⟨rfl, HB.out⟩
end Go.Proofs.YtebfjphmlggacaaGreat.Cg
