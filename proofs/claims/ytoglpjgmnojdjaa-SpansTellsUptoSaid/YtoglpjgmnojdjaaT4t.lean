/- The reference's Add: a contract. Conditions: as each theorem lists them. -/
import Derived.Test.YtoglpjgmnojdjaaT3
set_option linter.unusedSimpArgs false
set_option linter.unusedVariables false
namespace Go.Proofs.Ytoglpjgmnojdjaa.Ref
open Go Go.RowKit

/-- What Add has made, behind k runs. -/
def AddW (w wr : World) (es : List Int) (f t : Int) (k : Nat) (F T : Int) (d : Bool) (v : Value) (no : Nat) : Prop :=
  ∃ out : List Int, AddI es f t k F T d out ∧ out.length = no * 2 ∧ wr.ownsRow w.heap.size 57 2 v no (ints out) ∧ Below w.heap.size w wr

/-- The runs of the reference's set in block p lie in a row of runs. -/
def TyL (w : World) (p : Nat) : Prop := ∃ A n c, w.heap[p]? = some (.cells #[.slice A n c] 32 (0, 0)) ∧ ∀ a, A = some a → ∃ cur fr, w.heap[a.block]? = some (.cells cur 57 fr)
theorem TyL.of {W : World} {p base nx cx k c : Nat} {Ax A : Option Addr} {xs : List Value} (hO : W.ownsRow base 57 2 (.slice Ax nx cx) nx xs) (hhp : W.heap[p]? = some (.cells #[.slice A k c] 32 (0, 0))) (hp : p < base) : TyL (W.setCell ⟨p, 0, none⟩ (.slice Ax nx cx)) p := by
  refine ⟨Ax, nx, cx, one_setCell hhp, fun a ha => ?_⟩
  subst ha
  rcases hO.2 with ⟨e, _⟩ | ⟨g, cap, cur, e, hg, hh, _⟩
  · simp at e
  · simp only [Value.slice.injEq, Option.some.injEq] at e
    obtain ⟨rfl, _⟩ := e
    exact ⟨cur, _, (Below.heap_setCell _ _ _ _ (show g ≠ p by omega)).trans hh⟩

theorem ow_len {out : List Int} {no : Nat} (h : out.length = no * 2) (x y : Int) : (out ++ [x, y]).length = (no + 1) * 2 := by simp [h]; omega

set_option maxRecDepth 100000 in
set_option maxHeartbeats 2000000 in
theorem radd_do (es : List Int) (p : Nat) (f0 t0 : Int) (w : World) (h : RefIn w p es) (hm : (es.length + 2) * 32 ≤ 140737488355328) (hft : clamp f0 < clamp t0) :
    Calls Try.prog 9 #[.pointer (some ⟨p, 0, none⟩), .int .i64 f0, .int .i64 t0] w fun e w' => e = .returned (.tuple #[]) ∧ RefIn w' p (turnF es (clamp f0) (clamp t0) true) ∧ w.grownBy w' (some p) ∧ TyL w' p := by
  have cf := clamp_in f0
  have ct := clamp_in t0
  have W1 := Lib.hid (fun W => rwithin_any f0 W)
  have W2 := Lib.hid (fun W => rwithin_any t0 W)
  obtain ⟨f, hf⟩ : ∃ x, Hid (clamp f0 = x) := ⟨_, rfl⟩
  obtain ⟨t, ht⟩ : ∃ x, Hid (clamp t0 = x) := ⟨_, rfl⟩
  rw [hf.out] at W1 cf hft ⊢
  rw [ht.out] at W2 ct hft ⊢
  have hle : ¬ t ≤ f := by omega
  have hpz := h.lt
  have HOk := Lib.hid h.1
  obtain ⟨_, A, n, c, hn0, hhp, hnc, hrd⟩ := h
  have hn := Lib.hid hn0
  have HR := Lib.hid hrd
  have HHP := Lib.hid hhp
  have hnb : (n : Int) ≤ 2199023255552 := by omega
  have hncI : (n : Int) ≤ (c : Int) := by omega
  obtain ⟨i0, hi, hz0, hz1, hz2⟩ := info_parts infoP
  have HI := Lib.hid (And.intro hi (And.intro hz0 (And.intro hz1 hz2)))
  have hcell : w.cell? ⟨p, 0, none⟩ = some (.slice A n c) := cell_of_one hhp
  clear hhp hrd hn0 hi hz0 hz1 hz2
  go_enter Try.func9, Try.ntmps9
  go_wp2_with fail
  refine (W1.out _).mono ?_; rintro e w' ⟨rfl, rfl⟩
  go_wp2_with fail
  refine (W2.out _).mono ?_; rintro e w' ⟨rfl, rfl⟩
  go_wp2_with fail
  go_loopw [1, 2, 6, 7, 8] (fun vf vt v vd i wr => ∃ (k no : Nat) (F T : Int) (d : Bool), k ≤ n ∧ no ≤ k + 1 ∧ i = .int .i64 k ∧ vf = .int .i64 F ∧ vt = .int .i64 T ∧ vd = .bool d ∧ (∃ Ao co, v = .slice Ao no co) ∧ Hid (AddW w wr es f t k F T d v no)) (fun _ _ _ _ i _ => n - (intOf i).toNat)
  case atStart => exact ⟨0, 0, f, t, false, Nat.zero_le _, by omega, rfl, rfl, rfl, rfl, ⟨_, _, rfl⟩, [], AddI.nil es f t cf.1 hft ct.2, rfl, own_nil _ _ _ _, Below.refl _ _⟩
  case round =>
    clear hcell
    obtain ⟨k, no, F, T, d, hk, hno, rfl, rfl, rfl, rfl, ⟨Ao, co, rfl⟩, HK⟩ := hrel
    obtain ⟨out, hd, hol, hown, hbw⟩ := HK.out
    have HD := Lib.hid hd
    have HOL := Lib.hid hol
    have HO := Lib.hid hown
    have HB := Lib.hid hbw
    have hlo := hd.lo
    have hlt0 := hd.lt
    have hhi := hd.hi
    have hcellr : wr.cell? ⟨p, 0, none⟩ = some (.slice A n c) := by rw [hbw.cell (p := ⟨p, 0, none⟩) hpz]; exact cell_of_one HHP.out
    clear HK hd hol hown hbw
    by_cases hlt : k < n
    · have hlti : (k : Int) < (n : Int) := by omega
      obtain ⟨b, off, hA, hbn, hcs⟩ := HR.out.2 (by omega)
      subst hA
      have hl1 : 2 * k + 1 < es.length := by have := hn.out; omega
      obtain ⟨x, hx⟩ : ∃ x, Hid (es.getD (2 * k) 0 = x) := ⟨_, rfl⟩
      obtain ⟨y, hy⟩ : ∃ y, Hid (es.getD (2 * k + 1) 0 = y) := ⟨_, rfl⟩
      have hxy := get_mono HOk.out.1 (2 * k) (2 * k + 1) (by omega) hl1
      rw [hx.out, hy.out] at hxy
      have hcx : wr.cell? ⟨b, off + k * 2, none⟩ = some (.int .i64 x) := by
        rw [HB.out.cell (p := ⟨b, off + k * 2, none⟩) hbn, show off + k * 2 = off + 2 * k by omega, hcs (2 * k) _ (ints_get es _ (by omega)), hx.out]
      have hcy : wr.cell? ⟨b, off + k * 2 + 1, none⟩ = some (.int .i64 y) := by
        rw [HB.out.cell (p := ⟨b, off + k * 2 + 1, none⟩) hbn, show off + k * 2 + 1 = off + (2 * k + 1) by omega, hcs (2 * k + 1) _ (ints_get es _ (by omega)), hy.out]
      clear hcs
      have nb := World.new_ne wr _ hcx
      have HBa : Hid (Below w.heap.size w (wr.alloc (.cells #[.int .i64 x, .int .i64 y] 57))) := HB.out.alloc HB.out.size _
      have HOa : Hid ((wr.alloc (.cells #[.int .i64 x, .int .i64 y] 57)).ownsRow w.heap.size 57 2 (.slice Ao no co) no (ints out)) := HO.out.alloc _
      have hb2 : Hid (∀ o o2 : Obj, w.heap.size ≤ ((wr.alloc o).alloc o2).heap.size) := fun o o2 => by have := HB.out.size; simp only [World.size_alloc]; omega
      have hno' : no ≤ 2199023255553 := by omega
      have HNA : Hid (AddI es f t (k + 1) F T d (out ++ [x, y]) → ∀ A1 c1 w1, w1.ownsRow w.heap.size 57 2 (.slice A1 (no + 1) c1) (no + 1) (ints out ++ ints [x, y]) → ((wr.alloc (.cells #[.int .i64 x, .int .i64 y] 57)).alloc (.cells #[.int .i64 x, .int .i64 y] 57)).grownBy w1 (Value.slice Ao no co).ownBlock → AddW w w1 es f t (k + 1) F T d (.slice A1 (no + 1) c1) (no + 1)) := fun hI A1 c1 w1 hown1 hgrow1 =>
        ⟨out ++ [x, y], hI, ow_len HOL.out x y, by rw [ints_app]; exact hown1, (HBa.out.alloc HBa.out.size _).grown hgrow1 (hb2.out _ _) (fun g hg => (HOa.out.lt g hg).1)⟩
      cases d with
      | true =>
        have HBH := Lib.hid (HD.out.behind HOk.out hl1).2.2
        have hTx := (HD.out.done rfl).1 (2 * k) (Nat.le_refl _) (by omega)
        rw [hx.out] at hTx
        rw [hx.out, hy.out] at HBH
        have t1 : decide (y < F) = false := decide_eq_false (by omega)
        have t2 : decide (T < x) = true := decide_eq_true (by omega)
        have q1 : ¬ y < F := by omega
        go_wp2_with (at_builtin; refine wpList_app _ rfl (.tmp 53) (.tmp 55) 30 rfl w.heap.size 57 i0 (.agg #[.int .i64 0, .int .i64 0]) 2 16 Try.underlying30 HI.out.1 HI.out.2.1 HI.out.2.2.1 HI.out.2.2.2 rfl (by decide) (.slice Ao no co) no (ints out) rfl (HOa.out.alloc _) ((wr.alloc (.cells #[.int .i64 x, .int .i64 y] 57)).heap.size + 1) (some ⟨(wr.alloc (.cells #[.int .i64 x, .int .i64 y] 57)).heap.size, 0, none⟩) 1 1 (ints [x, y]) (by simp [Act.eval]) (rd_new _ _ _ _ _ _ _ rfl (by omega) rfl rfl) (ones_ints _) (by unfold maxLen; omega) (by omega) (hb2.out _ _) ?_)
        intro v1 w1 hown1 hgrow1
        obtain ⟨A1, c1, e1, _⟩ := own_form hown1
        subst e1
        have HN := Lib.hid (HNA.out HBH.out A1 c1 w1 hown1 hgrow1)
        clear hown1 hgrow1
        go_wp2_with fail
        go_roundw
        case rel => exact ⟨k + 1, no + 1, F, T, true, by omega, by omega, by go_num, rfl, rfl, rfl, ⟨_, _, rfl⟩, HN⟩
        case measure => simp [intOf]; omega
      | false =>
        by_cases h1 : y < F
        · have HAH := Lib.hid (HD.out.ahead HOk.out hl1 (by rw [hy.out]; exact h1))
          rw [hx.out, hy.out] at HAH
          have t1 : decide (y < F) = true := decide_eq_true h1
          go_wp2_with (at_builtin; refine wpList_app _ rfl (.tmp 37) (.tmp 39) 30 rfl w.heap.size 57 i0 (.agg #[.int .i64 0, .int .i64 0]) 2 16 Try.underlying30 HI.out.1 HI.out.2.1 HI.out.2.2.1 HI.out.2.2.2 rfl (by decide) (.slice Ao no co) no (ints out) rfl (HOa.out.alloc _) ((wr.alloc (.cells #[.int .i64 x, .int .i64 y] 57)).heap.size + 1) (some ⟨(wr.alloc (.cells #[.int .i64 x, .int .i64 y] 57)).heap.size, 0, none⟩) 1 1 (ints [x, y]) (by simp [Act.eval]) (rd_new _ _ _ _ _ _ _ rfl (by omega) rfl rfl) (ones_ints _) (by unfold maxLen; omega) (by omega) (hb2.out _ _) ?_)
          intro v1 w1 hown1 hgrow1
          obtain ⟨A1, c1, e1, _⟩ := own_form hown1
          subst e1
          have HN := Lib.hid (HNA.out HAH.out A1 c1 w1 hown1 hgrow1)
          clear hown1 hgrow1
          go_wp2_with fail
          go_roundw
          case rel => exact ⟨k + 1, no + 1, F, T, false, by omega, by omega, by go_num, rfl, rfl, rfl, ⟨_, _, rfl⟩, HN⟩
          case measure => simp [intOf]; omega
        · have t1 : decide (y < F) = false := decide_eq_false h1
          by_cases h2 : T < x
          · have t2 : decide (T < x) = true := decide_eq_true h2
            have HON := Lib.hid (HD.out.out_now (ahead_of HOk.out hl1 (by rw [hx.out]; exact h2)))
            have HBH := Lib.hid (HON.out.behind HOk.out hl1).2.2
            rw [hx.out, hy.out] at HBH
            go_wp2_with (at_builtin; refine wpList_app _ rfl (.tmp 47) (.tmp 51) 30 rfl w.heap.size 57 i0 (.agg #[.int .i64 0, .int .i64 0]) 2 16 Try.underlying30 HI.out.1 HI.out.2.1 HI.out.2.2.1 HI.out.2.2.2 rfl (by decide) (.slice Ao no co) no (ints out) rfl (HOa.out.alloc _) ((wr.alloc (.cells #[.int .i64 x, .int .i64 y] 57)).heap.size + 1) (some ⟨(wr.alloc (.cells #[.int .i64 x, .int .i64 y] 57)).heap.size, 0, none⟩) 1 1 (ints [F, T]) (by simp [Act.eval]) (rd_new _ _ _ _ _ _ _ rfl (by omega) rfl rfl) (ones_ints _) (by unfold maxLen; omega) (by omega) (hb2.out _ _) ?_)
            intro v1 w1 hown1 hgrow1
            obtain ⟨A1, c1, e1, _⟩ := own_form hown1
            subst e1
            have HO1 : Hid (w1.ownsRow w.heap.size 57 2 (.slice A1 (no + 1) c1) (no + 1) (ints (out ++ [F, T]))) := by rw [ints_app]; exact hown1
            have HB1 : Hid (Below w.heap.size w w1) := (HBa.out.alloc HBa.out.size _).grown hgrow1 (hb2.out _ _) (fun g hg => (HOa.out.lt g hg).1)
            have hne : (Value.slice Ao no co).ownBlock ≠ some wr.heap.size := fun e => by have := (HO.out.lt _ e).2; omega
            have hblk : w1.heap[wr.heap.size]? = some (.cells #[.int .i64 x, .int .i64 y] 57 (0, 0)) := by
              rw [hgrow1.block wr.heap.size (by simp only [World.size_alloc]; omega) (fun e => hne e.symm)]
              exact (((Below.refl _ _).alloc (Nat.le_refl _) _).block wr.heap.size (by simp)).trans (heap_alloc_new _ _)
            have HBLK := Lib.hid hblk
            obtain ⟨hx1, hy1⟩ := two_cells hblk
            have hw1s : Hid (wr.heap.size + 1 < w1.heap.size) := by have := hgrow1.size; simp only [World.size_alloc] at this; show _ < _; omega
            clear hown1 hgrow1 hne hblk
            have hb3 : Hid (w.heap.size ≤ (w1.alloc (.cells #[.int .i64 x, .int .i64 y] 57)).heap.size) := by have := HB1.out.size; show _ ≤ _; simp only [World.size_alloc]; omega
            go_wp2_with (at_builtin; refine wpList_app _ rfl (.tmp 53) (.tmp 55) 30 rfl w.heap.size 57 i0 (.agg #[.int .i64 0, .int .i64 0]) 2 16 Try.underlying30 HI.out.1 HI.out.2.1 HI.out.2.2.1 HI.out.2.2.2 rfl (by decide) (.slice A1 (no + 1) c1) (no + 1) (ints (out ++ [F, T])) rfl (HO1.out.alloc _) (w1.heap.size + 1) (some ⟨w1.heap.size, 0, none⟩) 1 1 (ints [x, y]) (by simp [Act.eval]) (rd_new _ _ _ _ _ _ _ rfl (by omega) rfl rfl) (ones_ints _) (by unfold maxLen; omega) (by omega) hb3.out ?_)
            intro v2 w2 hown2 hgrow2
            obtain ⟨A2, c2, e2, _⟩ := own_form hown2
            subst e2
            have HN : Hid (AddW w w2 es f t (k + 1) F T true (.slice A2 (no + 1 + 1) c2) (no + 1 + 1)) :=
              ⟨out ++ [F, T] ++ [x, y], HBH.out, ow_len (ow_len HOL.out F T) x y, by rw [ints_app]; exact hown2, (HB1.out.alloc HB1.out.size _).grown hgrow2 hb3.out (fun g hg => (HO1.out.lt g hg).1)⟩
            have hnk : Hid (no + 1 + 1 ≤ k + 1 + 1) := by
              have h1 := HBH.out.len
              have h2 := ow_len (ow_len HOL.out F T) x y
              simp at h1 h2
              show _ ≤ _
              omega
            clear hown2 hgrow2
            go_wp2_with fail
            go_roundw
            case rel => exact ⟨k + 1, no + 1 + 1, F, T, true, by omega, hnk.out, by go_num, rfl, rfl, rfl, ⟨_, _, rfl⟩, HN⟩
            case measure => simp [intOf]; omega
          · have t2 : decide (T < x) = false := decide_eq_false h2
            have HME := Lib.hid (HD.out.meets HOk.out hl1 (by rw [hy.out]; exact h1) (by rw [hx.out]; exact h2))
            rw [hx.out, hy.out] at HME
            have HN : Hid (AddW w (wr.alloc (.cells #[.int .i64 x, .int .i64 y] 57)) es f t (k + 1) (min F x) (max T y) false (.slice Ao no co) no) := ⟨out, HME.out, HOL.out, HOa.out, HBa.out⟩
            go_wp2_with fail
            go_roundw
            case rel => exact ⟨k + 1, no, min F x, max T y, false, by omega, by omega, by go_num, rfl, rfl, rfl, ⟨_, _, rfl⟩, HN⟩
            case measure => simp [intOf]; omega
    · have hlti : ¬ (k : Int) < (n : Int) := by omega
      obtain rfl : k = n := by omega
      have HFIN : Hid (∀ (out2 : List Int) (W : World) (Ax : Option Addr) (nx cx : Nat), AddI es f t k F T true out2 → out2.length = nx * 2 → W.ownsRow w.heap.size 57 2 (.slice Ax nx cx) nx (ints out2) → Below w.heap.size w W → RefIn (W.setCell ⟨p, 0, none⟩ (.slice Ax nx cx)) p (turnF es f t true) ∧ w.grownBy (W.setCell ⟨p, 0, none⟩ (.slice Ax nx cx)) (some p) ∧ TyL (W.setCell ⟨p, 0, none⟩ (.slice Ax nx cx)) p) := fun out2 W Ax nx cx hI hl hO hB => by
        have HE := AddI.eq HOk.out cf.1 hft ct.2 k hn.out hI
        have hhp : W.heap[p]? = some (.cells #[.slice A k c] 32 (0, 0)) := (hB.block p hpz).trans HHP.out
        have HG : Hid (W.grownBy (W.setCell ⟨p, 0, none⟩ (.slice Ax nx cx)) (some p)) := grown_of (Below.refl _ _) p _
        have hk2 := hO.kept HG.out (by
          by_cases hb : (Value.slice Ax nx cx).ownBlock = none
          · exact .inl hb
          · exact .inr fun e => by have := (hO.lt p e).1; omega)
        obtain ⟨_, _, e, hnc2, _, _, hrd2⟩ := own_form hk2
        simp only [Value.slice.injEq] at e
        obtain ⟨rfl, _, rfl⟩ := e
        exact ⟨⟨ok_turnF es f t true HOk.out cf.1 hft ct.2, Ax, nx, cx, by rw [← HE]; exact hl, one_setCell hhp, hnc2, by rw [← HE]; exact hrd2⟩, grown_of hB p _, TyL.of hO hhp hpz⟩
      have hhp : wr.heap[p]? = some (.cells #[.slice A k c] 32 (0, 0)) := (HB.out.block p hpz).trans HHP.out
      have hfz : wr.frozen? ⟨p, 0, none⟩ = false := free_of_one hhp
      have HHP2 := Lib.hid hhp
      clear hhp
      cases d with
      | true =>
        have HE := Lib.hid (HFIN.out out wr Ao no co HD.out HOL.out HO.out HB.out)
        go_wp2_with fail
        go_end0
        exact ⟨rfl, HE.out⟩
      | false =>
        have HON := Lib.hid (HD.out.out_now (fun i h1 h2 => by have := hn.out; omega))
        have hb3 : Hid (w.heap.size ≤ (wr.alloc (.cells #[.int .i64 F, .int .i64 T] 57)).heap.size) := by have := HB.out.size; show _ ≤ _; simp only [World.size_alloc]; omega
        have hno' : no ≤ 2199023255553 := by omega
        go_wp2_with (at_builtin; refine wpList_app _ rfl (.tmp 67) (.tmp 71) 30 rfl w.heap.size 57 i0 (.agg #[.int .i64 0, .int .i64 0]) 2 16 Try.underlying30 HI.out.1 HI.out.2.1 HI.out.2.2.1 HI.out.2.2.2 rfl (by decide) (.slice Ao no co) no (ints out) rfl (HO.out.alloc _) (wr.heap.size + 1) (some ⟨wr.heap.size, 0, none⟩) 1 1 (ints [F, T]) (by simp [Act.eval]) (rd_new _ _ _ _ _ _ _ rfl (by omega) rfl rfl) (ones_ints _) (by unfold maxLen; omega) (by omega) hb3.out ?_)
        intro v1 w1 hown1 hgrow1
        obtain ⟨A1, c1, e1, _⟩ := own_form hown1
        subst e1
        have HB1 : Hid (Below w.heap.size w w1) := (HB.out.alloc HB.out.size _).grown hgrow1 hb3.out (fun g hg => (HO.out.lt g hg).1)
        have HE := Lib.hid (HFIN.out (out ++ [F, T]) w1 A1 (no + 1) c1 HON.out (ow_len HOL.out F T) (by rw [ints_app]; exact hown1) HB1.out)
        have hcell1 : w1.cell? ⟨p, 0, none⟩ = some (.slice A k c) := by rw [HB1.out.cell (p := ⟨p, 0, none⟩) hpz]; exact cell_of_one HHP.out
        have hfz1 : w1.frozen? ⟨p, 0, none⟩ = false := by rw [HB1.out.frozen (p := ⟨p, 0, none⟩) hpz]; exact free_of_one HHP.out
        clear hown1 hgrow1
        go_wp2_with fail
        go_end0
        exact ⟨rfl, HE.out⟩

theorem radd_any (es : List Int) (p : Nat) (f t : Int) (w : World) (h : RefIn w p es) (hm : (es.length + 2) * 32 ≤ 140737488355328) :
    Calls Try.prog 9 #[.pointer (some ⟨p, 0, none⟩), .int .i64 f, .int .i64 t] w fun e w' => e = .returned (.tuple #[]) ∧ RefIn w' p (turn es f t true) ∧ w.grownBy w' (some p) := by
  unfold turn
  by_cases hft : clamp t ≤ clamp f
  · rw [if_pos hft]
    have W1 := Lib.hid (fun W => rwithin_any f W)
    have W2 := Lib.hid (fun W => rwithin_any t W)
    obtain ⟨f', hf⟩ : ∃ x, Hid (clamp f = x) := ⟨_, rfl⟩
    obtain ⟨t', ht⟩ : ∃ x, Hid (clamp t = x) := ⟨_, rfl⟩
    rw [hf.out] at W1 hft
    rw [ht.out] at W2 hft
    have HH := Lib.hid h
    clear h
    go_enter Try.func9, Try.ntmps9
    go_wp2_with fail
    refine (W1.out _).mono ?_; rintro e w' ⟨rfl, rfl⟩
    go_wp2_with fail
    refine (W2.out _).mono ?_; rintro e w' ⟨rfl, rfl⟩
    go_wp2_with fail
    have HE : Hid (RefIn w p es ∧ w.grownBy w (some p)) := ⟨HH.out, ⟨rfl, rfl, rfl, Nat.le_refl _, fun _ _ _ => rfl⟩⟩
    first | (go_end0; exact ⟨rfl, HE.out⟩) | exact bodyPost_ret (v := .tuple #[]) (by simp [results, Try.results9, go_sem]) rfl ⟨rfl, HE.out⟩
  · rw [if_neg hft]
    refine (radd_do es p f t w h hm (by omega)).mono ?_
    rintro e w' ⟨rfl, h1, h2, _⟩
    exact ⟨rfl, h1, h2⟩

theorem radd_ty (es : List Int) (p : Nat) (f t : Int) (w : World) (h : RefIn w p es) (hty : TyL w p) (hm : (es.length + 2) * 32 ≤ 140737488355328) :
    Calls Try.prog 9 #[.pointer (some ⟨p, 0, none⟩), .int .i64 f, .int .i64 t] w fun e w' => e = .returned (.tuple #[]) ∧ RefIn w' p (turn es f t true) ∧ w.grownBy w' (some p) ∧ TyL w' p := by
  unfold turn
  by_cases hft : clamp t ≤ clamp f
  · rw [if_pos hft]
    have W1 := Lib.hid (fun W => rwithin_any f W)
    have W2 := Lib.hid (fun W => rwithin_any t W)
    obtain ⟨f', hf⟩ : ∃ x, Hid (clamp f = x) := ⟨_, rfl⟩
    obtain ⟨t', ht⟩ : ∃ x, Hid (clamp t = x) := ⟨_, rfl⟩
    rw [hf.out] at W1 hft
    rw [ht.out] at W2 hft
    have HH := Lib.hid h
    have HT := Lib.hid hty
    clear h hty
    go_enter Try.func9, Try.ntmps9
    go_wp2_with fail
    refine (W1.out _).mono ?_; rintro e w' ⟨rfl, rfl⟩
    go_wp2_with fail
    refine (W2.out _).mono ?_; rintro e w' ⟨rfl, rfl⟩
    go_wp2_with fail
    have HE : Hid (RefIn w p es ∧ w.grownBy w (some p) ∧ TyL w p) := ⟨HH.out, ⟨rfl, rfl, rfl, Nat.le_refl _, fun _ _ _ => rfl⟩, HT.out⟩
    first | (go_end0; exact ⟨rfl, HE.out⟩) | exact bodyPost_ret (v := .tuple #[]) (by simp [results, Try.results9, go_sem]) rfl ⟨rfl, HE.out⟩
  · rw [if_neg hft]
    exact radd_do es p f t w h hm (by omega)

theorem TyL.kept {w w' : World} {p : Nat} {row : Option Nat} (h : TyL w p) (g : w.grownBy w' row) (hp : row ≠ some p) (hr : ∀ k, row = some k → ∃ cur fr e, w.heap[k]? = some (.cells cur e fr) ∧ e ≠ 57) : TyL w' p := by
  obtain ⟨A, n, c, h1, h2⟩ := h
  refine ⟨A, n, c, (g.block p (lt_of_block h1) (fun e => hp e.symm)).trans h1, fun a ha => ?_⟩
  obtain ⟨cur, fr, h3⟩ := h2 a ha
  refine ⟨cur, fr, (g.block a.block (lt_of_block h3) (fun e => ?_)).trans h3⟩
  obtain ⟨cur', fr', e', h4, hne⟩ := hr a.block e.symm
  rw [h3] at h4
  cases h4
  exact hne rfl
/-- The reference's set stays while a row of another kind is written. -/
theorem RefIn.kind {w w' : World} {p : Nat} {es : List Int} {row : Option Nat} (h : RefIn w p es) (ht : TyL w p) (g : w.grownBy w' row) (hp : row ≠ some p) (hr : ∀ k, row = some k → ∃ cur fr e, w.heap[k]? = some (.cells cur e fr) ∧ e ≠ 57) : RefIn w' p es ∧ TyL w' p := by
  have hty := ht.kept g hp hr
  have hl := h.lt
  obtain ⟨h1, A, n, c, h0, h2, h3, h4⟩ := h
  obtain ⟨A', n', c', k1, k2⟩ := ht
  rw [h2] at k1
  simp only [Option.some.injEq, Obj.cells.injEq, Array.mk.injEq, List.cons.injEq, Value.slice.injEq, and_true] at k1
  obtain ⟨⟨rfl, rfl, rfl⟩, _⟩ := k1
  refine ⟨⟨h1, A, n, c, h0, (g.block p hl (fun e => hp e.symm)).trans h2, h3, h4.1, fun hn => ?_⟩, hty⟩
  obtain ⟨b, off, rfl, hlt, hc⟩ := h4.2 hn
  refine ⟨b, off, rfl, Nat.lt_of_lt_of_le hlt g.size, fun j u hu => g.cell (hc j u hu) (fun e => ?_)⟩
  obtain ⟨cur, fr, h5⟩ := k2 _ rfl
  obtain ⟨cur', fr', e', h6, hne⟩ := hr b e.symm
  rw [h5] at h6
  cases h6
  exact hne rfl
theorem TyL.below {w w' : World} {p : Nat} (h : TyL w p) (hb : Below w.heap.size w w') : TyL w' p := by
  obtain ⟨A, n, c, h1, h2⟩ := h
  refine ⟨A, n, c, (hb.block p (lt_of_block h1)).trans h1, fun a ha => ?_⟩
  obtain ⟨cur, fr, h3⟩ := h2 a ha
  exact ⟨cur, fr, (hb.block a.block (lt_of_block h3)).trans h3⟩
end Go.Proofs.Ytoglpjgmnojdjaa.Ref
