/- gap, climb, fill, Good of the program: contracts. Conditions: as each theorem lists them. -/
import Derived.Test.YtebfjphmlggacaaJCa
import Derived.Deep.DeepCutAuto
import Derived.Deep.CutBlock
set_option linter.unusedSimpArgs false
set_option linter.unusedVariables false

namespace Go.Proofs.Ytebfjphmlggacaa.Cg
open Go Go.RowKit Go.Proofs.Ytebfjphmlggacaa

theorem goodS_climb {s : Win} (h1 : s.size < s.slow) (h2 : s.slow ≤ 32) : goodS s = ⟨s.size + 1, s.slow, s.part, s.till⟩ := by
  unfold goodS
  rw [if_pos h1, Int.min_eq_left (by omega)]
theorem goodN_climb : ∀ (k : Nat) (s : Win), s.slow ≤ 32 → s.size + k ≤ s.slow → goodN k s = ⟨s.size + k, s.slow, s.part, s.till⟩ := fun k => by
  induction k with
  | zero => intro s _ _; show s = _; obtain ⟨a, b, c, d⟩ := s; simp
  | succ k ih =>
    intro s h2 hk
    show goodN k (goodS s) = _
    have e := ih ⟨s.size + 1, s.slow, s.part, s.till⟩ h2 (by show s.size + 1 + (k : Int) ≤ s.slow; omega)
    rw [goodS_climb (by omega) h2, e]
    show (⟨s.size + 1 + (k : Int), _, _, _⟩ : Win) = ⟨s.size + ((k + 1 : Nat) : Int), _, _, _⟩
    congr 1
    omega
theorem goodS_fill {s : Win} (h1 : ¬ s.size < s.slow) (h2 : s.size ≤ 32) (h3 : s.part + 1 < s.size) : goodS s = ⟨s.size, s.slow, s.part + 1, s.till⟩ := by
  unfold goodS
  rw [if_neg h1, if_neg (by omega), Int.min_eq_left h2]
theorem goodN_fill : ∀ (k : Nat) (s : Win), ¬ s.size < s.slow → s.size ≤ 32 → s.part + k < s.size → goodN k s = ⟨s.size, s.slow, s.part + k, s.till⟩ := fun k => by
  induction k with
  | zero => intro s _ _ _; show s = _; obtain ⟨a, b, c, d⟩ := s; simp
  | succ k ih =>
    intro s h1 h2 hk
    show goodN k (goodS s) = _
    have e := ih ⟨s.size, s.slow, s.part + 1, s.till⟩ h1 h2 (by show s.part + 1 + (k : Int) < s.size; omega)
    rw [goodS_fill h1 h2 (by omega), e]
    show (⟨_, _, s.part + 1 + (k : Int), _⟩ : Win) = ⟨_, _, s.part + ((k + 1 : Nat) : Int), _⟩
    congr 1
    omega
theorem goodN_full {s : Win} (k : Nat) (h1 : ¬ s.size < s.slow) (h2 : s.size ≤ 32) (h3 : s.part < s.size) (hk : (k : Int) = s.size - s.part) : goodN k s = ⟨min s.size 31 + 1, s.slow, 0, s.till⟩ := by
  obtain ⟨j, rfl⟩ : ∃ j, k = j + 1 := ⟨k - 1, by omega⟩
  rw [goodN_add, goodN_fill j s h1 h2 (by omega)]
  show goodS _ = _
  unfold goodS
  rw [if_neg h1, if_pos (by show s.part + (j : Int) + 1 = s.size; omega)]
  show (⟨min (s.size + 1) 32, _, _, _⟩ : Win) = _
  congr 1
  omega
theorem goodN_round {s : Win} (h1 : s.size = 32) (h2 : s.slow ≤ 32) (h3 : s.part = 0) : ∀ m : Nat, goodN (32 * m) s = s := fun m => by
  induction m with
  | zero => rfl
  | succ m ih =>
    rw [Nat.mul_succ, goodN_add, ih, goodN_full 32 (by omega) (by omega) (by omega) (by omega)]
    obtain ⟨a, b, c, d⟩ := s
    simp only at h1 h3
    subst h1 h3
    rfl
/-- What fill takes at once behind the end of a round. -/
theorem goodN_more {s : Win} (t q : Nat) (h1 : ¬ s.size < s.slow) (h2 : s.size ≤ 32) (h3 : s.part < s.size) (ht : (t : Int) = s.size - s.part) (h4 : min s.size 31 + 1 = 32) : goodN (t + 32 * q) s = ⟨32, s.slow, 0, s.till⟩ := by
  rw [goodN_add, goodN_full t h1 h2 h3 ht, h4]
  exact goodN_round rfl (by show s.slow ≤ 32; omega) rfl q

set_option maxRecDepth 100000 in
theorem gap_any (w : World) (a b : Int) (d : Nat) (hd : b - a = d) (ha : 0 ≤ a) (hb : b ≤ 64) :
    Calls Try.prog 64 #[.int .i64 a, .int .i64 b] w fun e w' => e = .returned (.int .u64 (d : Int)) ∧ w' = w := by
  have HD := Lib.hid hd
  have h0 : 0 ≤ b := by omega
  have h1 : a ≤ b := by omega
  clear hd
  go_enter Try.func64, Try.ntmps64
  go_wp2_with fail
  go_ret
  exact ⟨by rw [HD.out]; rfl, rfl⟩

/-- What climb and fill do: k of n. -/
def Took (s : Win) (p o : Nat) (T : TypeId) (cur : Array Value) (w : World) (n : Nat) (e : Ending) (w' : World) : Prop :=
  ∃ k : Nat, e = .returned (.int .i64 (k : Int)) ∧ 0 < k ∧ k ≤ n ∧ ∃ cur', WinIn w' p o T cur' (goodN k s) ∧ CurSame o cur cur' ∧ w.grownBy w' (some p)

set_option maxRecDepth 100000 in
set_option maxHeartbeats 4000000 in
theorem climb_any (w : World) (p o : Nat) (T : TypeId) (cur : Array Value) (s : Win) (h : WinIn w p o T cur s) (hok : OkW s) (hlt : s.size < s.slow) (n : Nat) (hn : 0 < n) (hn' : (n : Int) ≤ 9223372036854775807) :
    Calls Try.prog 45 #[.pointer (some ⟨p, o, none⟩), .int .i64 (n : Int)] w (Took s p o T cur w n) := by
  obtain ⟨sz, sl, pt, ti⟩ := s
  obtain ⟨s2, s32, l2, l32, p0, ps⟩ := hok
  simp only at s2 s32 l2 l32 p0 ps hlt
  obtain ⟨d, hd⟩ : ∃ d : Nat, sl - sz = d := ⟨(sl - sz).toNat, by omega⟩
  have HG := fun W => gap_any W sz sl d hd (by omega) (by omega)
  have h0 : ¬ sl ≤ sz := by omega
  have hd32 : (d : Int) ≤ 32 := by omega
  obtain ⟨c0, c1, c2, c3⟩ := h.cell
  have hf := h.free
  simp only at c0 c1 c2 c3
  have hn0 : 0 < (n : Int) := by omega
  have HD := Lib.hid hd
  have HN := Lib.hid hn
  by_cases hc : (d : Int) < (n : Int)
  · have x1 := h.set0 (sz + d)
    have HF : Hid (WinIn (w.setCell ⟨p, o, none⟩ (.int .i64 (sz + d))) p o T (cur.setIfInBounds o (.int .i64 (sz + d))) (goodN d ⟨sz, sl, pt, ti⟩) ∧ CurSame o cur (cur.setIfInBounds o (.int .i64 (sz + d))) ∧ w.grownBy (w.setCell ⟨p, o, none⟩ (.int .i64 (sz + d))) (some p)) :=
      ⟨by rw [goodN_climb d _ l32 (by show sz + (d : Int) ≤ sl; omega)]; exact x1, (CurSame.refl o cur).set o (by omega) _, grown_set (grown_refl _ _) _ _⟩
    have HC : Hid (0 < d ∧ d ≤ n) := ⟨by omega, by omega⟩
    clear h x1 hd hn
    go_enter Try.func45, Try.ntmps45
    go_wp2_with fail
    refine (HG _).mono ?_; rintro e w' ⟨rfl, rfl⟩
    go_wp2_with fail
    go_ret
    exact ⟨d, rfl, HC.out.1, HC.out.2, _, HF.out⟩
  · have x1 := h.set0 (sz + n)
    have HF : Hid (WinIn (w.setCell ⟨p, o, none⟩ (.int .i64 (sz + n))) p o T (cur.setIfInBounds o (.int .i64 (sz + n))) (goodN n ⟨sz, sl, pt, ti⟩) ∧ CurSame o cur (cur.setIfInBounds o (.int .i64 (sz + n))) ∧ w.grownBy (w.setCell ⟨p, o, none⟩ (.int .i64 (sz + n))) (some p)) :=
      ⟨by rw [goodN_climb n _ l32 (by show sz + (n : Int) ≤ sl; omega)]; exact x1, (CurSame.refl o cur).set o (by omega) _, grown_set (grown_refl _ _) _ _⟩
    clear h x1 hd hn
    go_enter Try.func45, Try.ntmps45
    go_wp2_with fail
    refine (HG _).mono ?_; rintro e w' ⟨rfl, rfl⟩
    go_wp2_with fail
    go_ret
    exact ⟨n, rfl, HN.out, Nat.le_refl _, _, HF.out⟩

set_option maxRecDepth 100000 in
set_option maxHeartbeats 4000000 in
theorem fill_any (w : World) (p o : Nat) (T : TypeId) (cur : Array Value) (s : Win) (h : WinIn w p o T cur s) (hok : OkW s) (hlt : ¬ s.size < s.slow) (n : Nat) (hn : 0 < n) (hn' : (n : Int) ≤ 9223372036854775807) :
    Calls Try.prog 46 #[.pointer (some ⟨p, o, none⟩), .int .i64 (n : Int)] w (Took s p o T cur w n) := by
  obtain ⟨sz, sl, pt, ti⟩ := s
  obtain ⟨s2, s32, l2, l32, p0, ps⟩ := hok
  simp only at s2 s32 l2 l32 p0 ps hlt
  obtain ⟨d, hd⟩ : ∃ d : Nat, sz - pt = d := ⟨(sz - pt).toNat, by omega⟩
  have HG : Hid (∀ W, Calls Try.prog 64 #[.int .i64 pt, .int .i64 sz] W fun e w' => e = .returned (.int .u64 (d : Int)) ∧ w' = W) := fun W => gap_any W pt sz d hd (by omega) (by omega)
  have h0 : ¬ 32 < sz := by omega
  have hd0 : ¬ (d : Int) = 0 := by omega
  have hd0' : ((d : Int) == 0) = false := by simpa using hd0
  have hd1 : 0 < (d : Int) := by omega
  have hd32 : (d : Int) ≤ 32 := by omega
  obtain ⟨c0, c1, c2, c3⟩ := h.cell
  have hf := h.free
  simp only at c0 c1 c2 c3
  have hn0 : 0 < (n : Int) := by omega
  have HD := Lib.hid hd
  have HN := Lib.hid hn
  have HS := Lib.hid s2
  have HL := Lib.hid (Int.not_lt.1 hlt)
  have HH := Lib.hid h
  have HPS := Lib.hid ps
  clear hd hn hlt h
  go_enter Try.func46, Try.ntmps46
  go_wp2_with fail
  go_quiet ((go_at_call 64; exact Calls.quiet_of_same (HG.out _)))
  obtain ⟨w2, hw2⟩ : ∃ x, w.drewN nq = x := ⟨_, rfl⟩
  have hx2 := HH.out.drewN nq
  have hg2 := grown_drew (grown_refl w (some p)) nq
  rw [hw2] at hx2 hg2 ⊢
  clear c0 c1 c2 c3 hf hw2 HH HG
  obtain ⟨c0, c1, c2, c3⟩ := hx2.cell
  have hf := hx2.free
  simp only at c0 c1 c2 c3
  by_cases hc : (n : Int) < (d : Int)
  · have x1 := hx2.set2 (pt + n)
    have x2 := x1.set0 sz
    obtain ⟨e0, e1, e2, e3⟩ := x1.cell
    have hf1 := x1.free
    simp only at e0 e1 e2 e3
    have hm : sz ≤ 32 := s32
    have HF : Hid (WinIn ((w2.setCell ⟨p, o + 2, none⟩ (.int .i64 (pt + n))).setCell ⟨p, o, none⟩ (.int .i64 sz)) p o T ((cur.setIfInBounds (o + 2) (.int .i64 (pt + n))).setIfInBounds o (.int .i64 sz)) (goodN n ⟨sz, sl, pt, ti⟩) ∧ CurSame o cur ((cur.setIfInBounds (o + 2) (.int .i64 (pt + n))).setIfInBounds o (.int .i64 sz)) ∧ w.grownBy ((w2.setCell ⟨p, o + 2, none⟩ (.int .i64 (pt + n))).setCell ⟨p, o, none⟩ (.int .i64 sz)) (some p)) :=
      ⟨by rw [goodN_fill n ⟨sz, sl, pt, ti⟩ (Int.not_lt.2 HL.out) s32 (by show pt + (n : Int) < sz; have := HD.out; omega)]; exact x2, ((CurSame.refl o cur).set (o + 2) (by omega) _).set o (by omega) _, grown_set (grown_set hg2 _ _) _ _⟩
    clear hx2 hg2 x1 x2
    go_wp2_with fail
    go_ret
    exact ⟨n, rfl, HN.out, Nat.le_refl _, _, HF.out⟩
  · rcases Int.lt_or_le sz 31 with h31 | h31
    · have hm : sz ≤ 31 := by omega
      have hne : ¬ sz + 1 = 32 := by omega
      have hne' : (sz + 1 == 32) = false := by simpa using hne
      have x1 := hx2.set0 (sz + 1)
      have x2 := x1.set2 0
      obtain ⟨e0, e1, e2, e3⟩ := x2.cell
      have hf1 := x1.free
      have hf2 := x2.free
      simp only at e0 e1 e2 e3
      have HF : Hid (WinIn ((w2.setCell ⟨p, o, none⟩ (.int .i64 (sz + 1))).setCell ⟨p, o + 2, none⟩ (.int .i64 0)) p o T ((cur.setIfInBounds o (.int .i64 (sz + 1))).setIfInBounds (o + 2) (.int .i64 0)) (goodN d ⟨sz, sl, pt, ti⟩) ∧ CurSame o cur ((cur.setIfInBounds o (.int .i64 (sz + 1))).setIfInBounds (o + 2) (.int .i64 0)) ∧ w.grownBy ((w2.setCell ⟨p, o, none⟩ (.int .i64 (sz + 1))).setCell ⟨p, o + 2, none⟩ (.int .i64 0)) (some p)) :=
        ⟨by rw [goodN_full (s := ⟨sz, sl, pt, ti⟩) d (Int.not_lt.2 HL.out) s32 HPS.out HD.out.symm, show min (Win.size ⟨sz, sl, pt, ti⟩) 31 + 1 = sz + 1 from by show min sz 31 + 1 = _; omega]; exact x2, ((CurSame.refl o cur).set o (by omega) _).set (o + 2) (by omega) _, grown_set (grown_set hg2 _ _) _ _⟩
      have HC : Hid (0 < d ∧ d ≤ n) := ⟨by omega, by omega⟩
      clear hx2 hg2 x1 x2
      go_wp2_with fail
      go_ret
      exact ⟨d, rfl, HC.out.1, HC.out.2, _, HF.out⟩
    · obtain ⟨q, hq, hq1⟩ : ∃ q : Nat, ((n : Int) - (d : Int)).tdiv 32 = (q : Int) ∧ (d : Int) + (q : Int) * 32 ≤ (n : Int) := ⟨(((n : Int) - (d : Int)) / 32).toNat, by rw [Int.tdiv_eq_ediv_of_nonneg (by omega)]; omega, by omega⟩
      have hm1 : min sz 31 = 31 := by omega
      have x1 := hx2.set0 32
      have x2 := x1.set2 0
      obtain ⟨e0, e1, e2, e3⟩ := x2.cell
      have hf1 := x1.free
      have hf2 := x2.free
      simp only at e0 e1 e2 e3
      have HF : Hid (WinIn ((w2.setCell ⟨p, o, none⟩ (.int .i64 32)).setCell ⟨p, o + 2, none⟩ (.int .i64 0)) p o T ((cur.setIfInBounds o (.int .i64 32)).setIfInBounds (o + 2) (.int .i64 0)) (goodN (d + 32 * q) ⟨sz, sl, pt, ti⟩) ∧ CurSame o cur ((cur.setIfInBounds o (.int .i64 32)).setIfInBounds (o + 2) (.int .i64 0)) ∧ w.grownBy ((w2.setCell ⟨p, o, none⟩ (.int .i64 32)).setCell ⟨p, o + 2, none⟩ (.int .i64 0)) (some p)) :=
        ⟨by rw [goodN_more (s := ⟨sz, sl, pt, ti⟩) d q (Int.not_lt.2 HL.out) s32 HPS.out HD.out.symm (by show min sz 31 + 1 = 32; omega)]; exact x2, ((CurSame.refl o cur).set o (by omega) _).set (o + 2) (by omega) _, grown_set (grown_set hg2 _ _) _ _⟩
      have HC : Hid (0 < d + 32 * q ∧ d + 32 * q ≤ n ∧ ((d : Int) + (q : Int) * 32 = ((d + 32 * q : Nat) : Int))) := ⟨by omega, by omega, by omega⟩
      clear hx2 hg2 x1 x2
      rcases Int.lt_or_le sz 32 with h32 | h32
      · obtain rfl : sz = 31 := by omega
        clear hm1
        go_wp2_with fail
        go_ret
        exact ⟨d + 32 * q, by rw [← HC.out.2.2]; rfl, HC.out.1, HC.out.2.1, _, HF.out⟩
      · obtain rfl : sz = 32 := by omega
        clear hm1
        go_wp2_with fail
        go_ret
        exact ⟨d + 32 * q, by rw [← HC.out.2.2]; rfl, HC.out.1, HC.out.2.1, _, HF.out⟩

set_option maxRecDepth 100000 in
set_option maxHeartbeats 4000000 in
theorem good_any (w : World) (p o : Nat) (T : TypeId) (cur : Array Value) (s : Win) (h : WinIn w p o T cur s) (hok : OkW s) (n : Int) (hn : -9223372036854775808 ≤ n ∧ n ≤ 9223372036854775807) :
    Calls Try.prog 25 #[.pointer (some ⟨p, o, none⟩), .int .i64 n] w fun e w' => e = .returned (.tuple #[]) ∧ ∃ cur', WinIn w' p o T cur' (goodN n.toNat s) ∧ CurSame o cur cur' ∧ w.grownBy w' (some p) := by
  have H := Lib.hid h
  have HOK := Lib.hid hok
  obtain ⟨hn1, hn2⟩ := hn
  clear h hok
  go_enter Try.func25, Try.ntmps25
  go_wp2_with fail
  go_loopw [1] (fun i wr => ∃ r : Int, i = .int .i64 r ∧ r ≤ n ∧ -9223372036854775808 ≤ r ∧ Hid (∃ st cur', goodN r.toNat st = goodN n.toNat s ∧ OkW st ∧ WinIn wr p o T cur' st ∧ CurSame o cur cur' ∧ w.grownBy wr (some p))) (fun i _ => (intOf i).toNat)
  case atStart => exact ⟨n, rfl, Int.le_refl _, hn1, s, cur, rfl, HOK.out, H.out, CurSame.refl _ _, grown_refl _ _⟩
  case round =>
    obtain ⟨r, rfl, hr, hr1, HK⟩ := hrel
    obtain ⟨st, cur', hg, hok, hw, hcs, hgr⟩ := HK.out
    clear HK
    by_cases h0 : 0 < r
    · obtain ⟨m, rfl⟩ : ∃ m : Nat, r = (m : Int) := ⟨r.toNat, by omega⟩
      have hm0 : 0 < m := by omega
      have hmx : (m : Int) ≤ 9223372036854775807 := by omega
      have hnext : ∀ (k : Nat) (w2 : World) (cur2 : Array Value), k ≤ m → WinIn w2 p o T cur2 (goodN k st) → CurSame o cur' cur2 → wr.grownBy w2 (some p) →
          Hid (∃ st cur', goodN ((m : Int) - (k : Int)).toNat st = goodN n.toNat s ∧ OkW st ∧ WinIn w2 p o T cur' st ∧ CurSame o cur cur' ∧ w.grownBy w2 (some p)) := fun k w2 cur2 hk hw2 hc2 hg2 =>
        ⟨goodN k st, cur2, by rw [← hg, ← goodN_add, Int.toNat_natCast]; congr 1; omega, hok.goodN k, hw2, hcs.trans hc2, grown_trans hgr hg2⟩
      have HNX := Lib.hid hnext
      have HW := Lib.hid hw
      have HO := Lib.hid hok
      obtain ⟨c0, c1, c2, c3⟩ := hw.cell
      have hf := hw.free
      obtain ⟨sz, hsz⟩ : ∃ x, st.size = x := ⟨_, rfl⟩
      obtain ⟨sl, hsl⟩ : ∃ x, st.slow = x := ⟨_, rfl⟩
      have HSZ := Lib.hid hsz
      have HSL := Lib.hid hsl
      rw [hsz] at c0
      rw [hsl] at c1
      clear hg hok hw hcs hgr hnext c2 c3 hsz hsl
      go_wp2_with fail
      by_cases ha : sz < sl
      · have hd : decide (sz < sl) = true := decide_eq_true ha
        go_quiet (fail)
        have hx2 := HW.out.drewN nq
        have hg2 := grown_drew (grown_refl wr (some p)) nq
        obtain ⟨w2, hw2⟩ : ∃ x, wr.drewN nq = x := ⟨_, rfl⟩
        rw [hw2] at hx2 hg2 ⊢
        have HC := climb_any w2 p o T cur' st hx2 HO.out (by rw [HSZ.out, HSL.out]; exact ha) m hm0 hmx
        clear hw2 hx2 c0 c1 hf
        have HG2 := Lib.hid hg2
        clear hg2
        go_wp2_with fail
        refine HC.mono ?_; rintro e w' ⟨k, rfl, hk0, hkm, cur2, hw2, hc2, hg3⟩
        clear HC
        have HN' := HNX.out k w' cur2 hkm hw2 hc2 (grown_trans HG2.out hg3)
        have hkI : (k : Int) ≤ (m : Int) := by omega
        have hk0I : 0 < (k : Int) := by omega
        clear hw2 hc2 hg3 HG2 HNX HW HO HSZ HSL
        go_wp2_with fail
        refine ⟨⟨(m : Int) - (k : Int), by first | rfl | go_num, by omega, by omega, HN'⟩, ?_⟩
        simp [intOf]; omega
      · have hd : decide (sz < sl) = false := decide_eq_false ha
        go_quiet (fail)
        have hx2 := HW.out.drewN nq
        have hg2 := grown_drew (grown_refl wr (some p)) nq
        obtain ⟨w2, hw2⟩ : ∃ x, wr.drewN nq = x := ⟨_, rfl⟩
        rw [hw2] at hx2 hg2 ⊢
        have HC := fill_any w2 p o T cur' st hx2 HO.out (by rw [HSZ.out, HSL.out]; exact ha) m hm0 hmx
        clear hw2 hx2 c0 c1 hf
        have HG2 := Lib.hid hg2
        clear hg2
        go_wp2_with fail
        refine HC.mono ?_; rintro e w' ⟨k, rfl, hk0, hkm, cur2, hw2, hc2, hg3⟩
        clear HC
        have HN' := HNX.out k w' cur2 hkm hw2 hc2 (grown_trans HG2.out hg3)
        have hkI : (k : Int) ≤ (m : Int) := by omega
        have hk0I : 0 < (k : Int) := by omega
        clear hw2 hc2 hg3 HG2 HNX HW HO HSZ HSL
        go_wp2_with fail
        refine ⟨⟨(m : Int) - (k : Int), by first | rfl | go_num, by omega, by omega, HN'⟩, ?_⟩
        simp [intOf]; omega
    · have hr0 : r.toNat = 0 := by omega
      rw [hr0] at hg
      have hg : st = goodN n.toNat s := hg
      have HF := Lib.hid (And.intro hw (And.intro hcs hgr))
      subst hg
      clear hw hcs hgr hok
      go_wp2_with fail
      first | go_end0 | go_ret
      exact ⟨rfl, _, HF.out⟩
end Go.Proofs.Ytebfjphmlggacaa.Cg
