/- The reference's Drop: a contract. Conditions: as each theorem lists them. -/
import Derived.Test.YtoglpjgmnojdjaaT2
set_option linter.unusedSimpArgs false
set_option linter.unusedVariables false
namespace Go.Proofs.Ytoglpjgmnojdjaa.Ref
open Go Go.RowKit

/-- What Drop has made, behind k runs. -/
def DropW (w wr : World) (es : List Int) (f t : Int) (k : Nat) (v : Value) : Prop :=
  ∃ (no : Nat) (out : List Int), DropI es f t k out ∧ out.length = no * 2 ∧ wr.ownsRow w.heap.size 57 2 v no (ints out) ∧ Below w.heap.size w wr

/-- A row of runs of the call's own, and the run at hand in its variable. -/
def PP (w wx : World) (px : Nat) (x y : Int) (outl : List Int) (A : Option Addr) (n c : Nat) : Prop :=
  outl.length = n * 2 ∧ wx.ownsRow w.heap.size 57 2 (.slice A n c) n (ints outl) ∧ Below w.heap.size w wx ∧ wx.heap[px]? = some (.cells #[.int .i64 x, .int .i64 y] 57 (0, 0))
theorem two_cells {w : World} {px : Nat} {x y : Int} {T : TypeId} (h : w.heap[px]? = some (.cells #[.int .i64 x, .int .i64 y] T (0, 0))) : w.cell? ⟨px, 0, none⟩ = some (.int .i64 x) ∧ w.cell? ⟨px, 1, none⟩ = some (.int .i64 y) :=
  ⟨by rw [Am.cell_of w px 0 _ T (0, 0) h]; rfl, by rw [Am.cell_of w px 1 _ T (0, 0) h]; rfl⟩

set_option maxRecDepth 100000 in
set_option maxHeartbeats 1000000 in
theorem rdrop_do (es : List Int) (p : Nat) (f0 t0 : Int) (w : World) (h : RefIn w p es) (hm : (es.length + 1) * 32 ≤ 140737488355328) (hft : clamp f0 < clamp t0) :
    Calls Try.prog 13 #[.pointer (some ⟨p, 0, none⟩), .int .i64 f0, .int .i64 t0] w fun e w' => e = .returned (.tuple #[]) ∧ RefIn w' p (turnF es (clamp f0) (clamp t0) false) ∧ w.grownBy w' (some p) := by
  have cf := clamp_in f0
  have ct := clamp_in t0
  have W1 := Lib.hid (fun W => rwithin_any f0 W)
  have W2 := Lib.hid (fun W => rwithin_any t0 W)
  obtain ⟨f, hf⟩ : ∃ x, Hid (clamp f0 = x) := ⟨_, rfl⟩
  obtain ⟨t, ht⟩ : ∃ x, Hid (clamp t0 = x) := ⟨_, rfl⟩
  rw [hf.out] at W1 cf hft ⊢
  rw [ht.out] at W2 ct hft ⊢
  have hle : ¬ t ≤ f := by omega
  have hpz := h.lt
  have HOk := Lib.hid h.1
  obtain ⟨_, A, n, c, hn0, hhp, hnc, hrd⟩ := h
  have hn := Lib.hid hn0
  have HR := Lib.hid hrd
  have HHP := Lib.hid hhp
  have hnb : (n : Int) ≤ 2199023255552 := by omega
  have hncI : (n : Int) ≤ (c : Int) := by omega
  obtain ⟨i0, hi, hz0, hz1, hz2⟩ := info_parts infoP
  have HI := Lib.hid (And.intro hi (And.intro hz0 (And.intro hz1 hz2)))
  have hcell : w.cell? ⟨p, 0, none⟩ = some (.slice A n c) := cell_of_one hhp
  clear hhp hrd hn0 hi hz0 hz1 hz2
  go_enter Try.func13, Try.ntmps13
  go_wp2_with fail
  refine (W1.out _).mono ?_; rintro e w' ⟨rfl, rfl⟩
  go_wp2_with fail
  refine (W2.out _).mono ?_; rintro e w' ⟨rfl, rfl⟩
  go_wp2_with fail
  go_loopw [6, 7] (fun v i wr => ∃ k : Nat, k ≤ n ∧ i = .int .i64 k ∧ (∃ Ao no co, v = .slice Ao no co) ∧ Hid (DropW w wr es f t k v)) (fun _ i _ => n - (intOf i).toNat)
  case atStart => exact ⟨0, Nat.zero_le _, rfl, ⟨_, _, _, rfl⟩, 0, [], DropI.nil es f t, rfl, own_nil _ _ _ _, Below.refl _ _⟩
  case round =>
    clear hcell
    obtain ⟨k, hk, rfl, ⟨Ao, no', co, rfl⟩, HK⟩ := hrel
    obtain ⟨no, out, hd, hol, hown, hbw⟩ := HK.out
    obtain ⟨Ax, cx, ex, _⟩ := own_form hown
    simp only [Value.slice.injEq] at ex
    obtain ⟨rfl, rfl, rfl⟩ := ex
    have HD := Lib.hid hd
    have HOL := Lib.hid hol
    have HO := Lib.hid hown
    have HB := Lib.hid hbw
    have hcellr : wr.cell? ⟨p, 0, none⟩ = some (.slice A n c) := by rw [hbw.cell (p := ⟨p, 0, none⟩) hpz]; exact cell_of_one HHP.out
    clear HK hd hol hown hbw
    by_cases hlt : k < n
    · have hlti : (k : Int) < (n : Int) := by omega
      obtain ⟨b, off, hA, hbn, hcs⟩ := HR.out.2 (by omega)
      subst hA
      have hl1 : 2 * k + 1 < es.length := by have := hn.out; omega
      have HST := Lib.hid (HD.out.step HOk.out hft hl1)
      obtain ⟨x, hx⟩ : ∃ x, Hid (es.getD (2 * k) 0 = x) := ⟨_, rfl⟩
      obtain ⟨y, hy⟩ : ∃ y, Hid (es.getD (2 * k + 1) 0 = y) := ⟨_, rfl⟩
      have hcx : wr.cell? ⟨b, off + k * 2, none⟩ = some (.int .i64 x) := by
        rw [HB.out.cell (p := ⟨b, off + k * 2, none⟩) hbn, show off + k * 2 = off + 2 * k by omega, hcs (2 * k) _ (ints_get es _ (by omega)), hx.out]
      have hcy : wr.cell? ⟨b, off + k * 2 + 1, none⟩ = some (.int .i64 y) := by
        rw [HB.out.cell (p := ⟨b, off + k * 2 + 1, none⟩) hbn, show off + k * 2 + 1 = off + (2 * k + 1) by omega, hcs (2 * k + 1) _ (ints_get es _ (by omega)), hy.out]
      rw [hx.out, hy.out] at HST
      clear hcs
      have nb := World.new_ne wr _ hcx
      have hnob : no' ≤ 2 * n := by have h1 := HD.out.2.2.2; have h2 := HOL.out; omega
      obtain ⟨wa, hwa⟩ : ∃ wa, Hid (wr.alloc (.cells #[.int .i64 x, .int .i64 y] 57) = wa) := ⟨_, rfl⟩
      have HX : Hid (wa.heap[wr.heap.size]? = some (.cells #[.int .i64 x, .int .i64 y] 57 (0, 0)) ∧ wa.heap.size = wr.heap.size + 1 ∧ Below wr.heap.size wr wa) := by
        rw [← hwa.out]; exact ⟨heap_alloc_new _ _, by simp, (Below.refl _ _).alloc (Nat.le_refl _) _⟩
      obtain ⟨px, hpx⟩ : ∃ px, Hid (wr.heap.size = px) := ⟨_, rfl⟩
      have HO1 : Hid (wa.ownsRow w.heap.size 57 2 (.slice Ao no' co) no' (ints out) ∧ (∀ g, (Value.slice Ao no' co).ownBlock = some g → g < px)) := by
        refine ⟨?_, fun g hg => by rw [← hpx.out]; exact (HO.out.lt g hg).2⟩
        rw [← hwa.out]; exact HO.out.alloc _
      have HBa : Hid (Below w.heap.size w wa) := HB.out.trans (HX.out.2.2.mono HB.out.size)
      rw [hpx.out] at HX
      go_upto_if 38 with (fail)
      rw [hwa.out, hpx.out]
      go_cut [6] (fun v wx => ∃ (A1 : Option Addr) (n1 c1 : Nat), v = .slice A1 n1 c1 ∧ n1 ≤ no' + 1 ∧ Hid (PP w wx px x y (drop1 out x y f) A1 n1 c1))
      case first =>
        have hcc := two_cells HX.out.1
        obtain ⟨hc0, hc1⟩ := hcc
        by_cases c1 : x < min y f
        · have HD1 : Hid (drop1 out x y f = out ++ [x, min y f]) := by show _ = _; unfold drop1; rw [if_pos c1]
          have d1 : decide (x < min y f) = true := decide_eq_true c1
          have hb2 : Hid (w.heap.size ≤ (wa.alloc (.cells #[.int .i64 (x), .int .i64 (min y f)] 57)).heap.size) := by have := HBa.out.size; show _ ≤ _; simp only [World.size_alloc]; omega
          go_wp2_with (at_builtin; refine wpList_app _ rfl (.tmp 39) (.tmp 47) 30 rfl w.heap.size 57 i0 (.agg #[.int .i64 0, .int .i64 0]) 2 16 Try.underlying30 HI.out.1 HI.out.2.1 HI.out.2.2.1 HI.out.2.2.2 rfl (by decide) (.slice Ao no' co) no' (ints (out)) rfl (HO1.out.1.alloc _) (wa.heap.size + 1) (some ⟨wa.heap.size, 0, none⟩) 1 1 (ints [x, min y f]) rfl (rd_new _ _ _ _ _ _ _ rfl (by omega) rfl rfl) (ones_ints _) (by unfold maxLen; omega) (by omega) hb2.out ?_)
          intro v1 w1 hown1 hgrow1
          obtain ⟨A1, c1, e1, _⟩ := own_form hown1
          subst e1
          rw [← ints_app] at hown1
          have HN : Hid (PP w w1 px x y (drop1 out x y f) A1 (no' + 1) c1) := by
            refine ⟨by rw [HD1.out, List.length_append, HOL.out]; simp; omega, by rw [HD1.out]; exact hown1, (HBa.out.alloc HBa.out.size _).grown hgrow1 hb2.out (fun g hg => (HO1.out.1.lt g hg).1), ?_⟩
            rw [hgrow1.block px (by have := HX.out.2.1; simp only [World.size_alloc]; omega) (fun e => by have := HO1.out.2 px e.symm; omega)]
            exact (((Below.refl _ _).alloc (Nat.le_refl _) _).block px (by have := HX.out.2.1; omega)).trans HX.out.1
          clear hown1 hgrow1
          go_wp2_with fail
          go_meet
          case rel => exact ⟨_, _, _, rfl, Nat.le_refl _, HN⟩
        · have HD1 : Hid (drop1 out x y f = out) := by show _ = _; unfold drop1; rw [if_neg c1]
          have d1 : decide (x < min y f) = false := decide_eq_false c1
          have HN : Hid (PP w wa px x y (drop1 out x y f) Ao no' co) := by rw [HD1.out]; exact ⟨HOL.out, HO1.out.1, HBa.out, HX.out.1⟩
          go_wp2_with fail
          go_meet
          case rel => exact ⟨_, _, _, rfl, by omega, HN⟩
      case rest =>
      obtain ⟨A1, n1, c1, rfl, hn1, HP⟩ := hcut
      obtain ⟨wb, hwb⟩ : ∃ wb : World, wc = wb := ⟨_, rfl⟩
      subst hwb
      obtain ⟨o1, ho1⟩ : ∃ o, Hid (drop1 out x y f = o) := ⟨_, rfl⟩
      rw [ho1.out] at HP HST
      have hcc := two_cells HP.out.2.2.2
      obtain ⟨hc0, hc1⟩ := hcc
      by_cases c2 : max x t < y
      · have HD2 : Hid (drop2 o1 x y t = o1 ++ [max x t, y]) := by show _ = _; unfold drop2; rw [if_pos c2]
        have d2 : decide (max x t < y) = true := decide_eq_true c2
        have hb2 : Hid (w.heap.size ≤ (wc.alloc (.cells #[.int .i64 (max x t), .int .i64 (y)] 57)).heap.size) := by have := HP.out.2.2.1.size; show _ ≤ _; simp only [World.size_alloc]; omega
        go_wp2_with (at_builtin; refine wpList_app _ rfl (.tmp 56) (.tmp 64) 30 rfl w.heap.size 57 i0 (.agg #[.int .i64 0, .int .i64 0]) 2 16 Try.underlying30 HI.out.1 HI.out.2.1 HI.out.2.2.1 HI.out.2.2.2 rfl (by decide) (.slice A1 n1 c1) n1 (ints (o1)) rfl (HP.out.2.1.alloc _) (wc.heap.size + 1) (some ⟨wc.heap.size, 0, none⟩) 1 1 (ints [max x t, y]) rfl (rd_new _ _ _ _ _ _ _ rfl (by omega) rfl rfl) (ones_ints _) (by unfold maxLen; omega) (by omega) hb2.out ?_)
        intro v1 w1 hown1 hgrow1
        obtain ⟨A2, c2', e1, _⟩ := own_form hown1
        subst e1
        rw [← ints_app] at hown1
        have HN : Hid (DropW w w1 es f t (k + 1) (.slice A2 (n1 + 1) c2')) := by
          refine ⟨n1 + 1, _, HST.out, by rw [HD2.out, List.length_append, HP.out.1]; simp; omega, by rw [HD2.out]; exact hown1, (HP.out.2.2.1.alloc HP.out.2.2.1.size _).grown hgrow1 hb2.out (fun g hg => (HP.out.2.1.lt g hg).1)⟩
        clear hown1 hgrow1
        go_wp2_with fail
        go_roundw
        case rel => exact ⟨k + 1, by omega, by go_num, ⟨_, _, _, rfl⟩, HN⟩
        case measure => simp [intOf]; omega
      · have HD2 : Hid (drop2 o1 x y t = o1) := by show _ = _; unfold drop2; rw [if_neg c2]
        have d2 : decide (max x t < y) = false := decide_eq_false c2
        have HN : Hid (DropW w wc es f t (k + 1) (.slice A1 n1 c1)) := ⟨n1, _, HST.out, by rw [HD2.out]; exact HP.out.1, by rw [HD2.out]; exact HP.out.2.1, HP.out.2.2.1⟩
        go_wp2_with fail
        go_roundw
        case rel => exact ⟨k + 1, by omega, by go_num, ⟨_, _, _, rfl⟩, HN⟩
        case measure => simp [intOf]; omega
    · have hlti : ¬ (k : Int) < (n : Int) := by omega
      obtain rfl : k = n := by omega
      have HE := Lib.hid (drop_eq HOk.out cf.1 hft ct.2 k hn.out HD.out)
      have hhp : wr.heap[p]? = some (.cells #[.slice A k c] 32 (0, 0)) := (HB.out.block p hpz).trans HHP.out
      have HHP2 := Lib.hid hhp
      have hfz : wr.frozen? ⟨p, 0, none⟩ = false := free_of_one hhp
      clear hhp
      go_wp2_with fail
      go_end0
      have HG : Hid (wr.grownBy (wr.setCell ⟨p, 0, none⟩ (.slice Ao no' co)) (some p)) := grown_of (Below.refl _ _) p _
      have hk2 := HO.out.kept HG.out (by
        by_cases hb : (Value.slice Ao no' co).ownBlock = none
        · exact .inl hb
        · exact .inr fun e => by have := (HO.out.lt p e).1; omega)
      obtain ⟨_, _, e, hnc2, _, _, hrd2⟩ := own_form hk2
      simp only [Value.slice.injEq] at e
      obtain ⟨rfl, _, rfl⟩ := e
      refine ⟨rfl, ⟨ok_turnF es f t false HOk.out cf.1 hft ct.2, Ao, no', co, by rw [← HE.out]; exact HOL.out, one_setCell HHP2.out, hnc2, by rw [← HE.out]; exact hrd2⟩, grown_of HB.out p _⟩

theorem rdrop_any (es : List Int) (p : Nat) (f t : Int) (w : World) (h : RefIn w p es) (hm : (es.length + 1) * 32 ≤ 140737488355328) :
    Calls Try.prog 13 #[.pointer (some ⟨p, 0, none⟩), .int .i64 f, .int .i64 t] w fun e w' => e = .returned (.tuple #[]) ∧ RefIn w' p (turn es f t false) ∧ w.grownBy w' (some p) := by
  unfold turn
  by_cases hft : clamp t ≤ clamp f
  · rw [if_pos hft]
    have W1 := Lib.hid (fun W => rwithin_any f W)
    have W2 := Lib.hid (fun W => rwithin_any t W)
    obtain ⟨f', hf⟩ : ∃ x, Hid (clamp f = x) := ⟨_, rfl⟩
    obtain ⟨t', ht⟩ : ∃ x, Hid (clamp t = x) := ⟨_, rfl⟩
    rw [hf.out] at W1 hft
    rw [ht.out] at W2 hft
    have HH := Lib.hid h
    clear h
    go_enter Try.func13, Try.ntmps13
    go_wp2_with fail
    refine (W1.out _).mono ?_; rintro e w' ⟨rfl, rfl⟩
    go_wp2_with fail
    refine (W2.out _).mono ?_; rintro e w' ⟨rfl, rfl⟩
    go_wp2_with fail
    have HE : Hid (RefIn w p es ∧ w.grownBy w (some p)) := ⟨HH.out, ⟨rfl, rfl, rfl, Nat.le_refl _, fun _ _ _ => rfl⟩⟩
    first | (go_end0; exact ⟨rfl, HE.out⟩) | exact bodyPost_ret (v := .tuple #[]) (by simp [results, Try.results13, go_sem]) rfl ⟨rfl, HE.out⟩
  · rw [if_neg hft]
    exact rdrop_do es p f t w h hm (by omega)
end Go.Proofs.Ytoglpjgmnojdjaa.Ref
