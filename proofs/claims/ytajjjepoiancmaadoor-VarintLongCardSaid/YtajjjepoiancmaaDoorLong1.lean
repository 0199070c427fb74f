/- VarintLong returns true: a number in a longer form than it needs is read as the same. Conditions: the two listed tables of math/bits read as listed. -/
import Derived.Test.YtajjjepoiancmaaDoorW8
import Derived.LoopN
namespace Go.Proofs.YtajjjepoiancmaaDoor.Long
open Go Go.RowKit

theorem own_at (w : World) (cur : Array Value) (k : Nat) (b base : Nat) (hb : b = w.heap.size) (hk : cur.size = k) (hm : k ≤ maxLen) (hbase : base ≤ w.heap.size) :
    (w.alloc (.cells cur 5)).ownsRow base 5 1 (.slice (some ⟨b, 0, none⟩) k k) k cur.toList := by
  subst hb
  subst hk
  exact ⟨by rw [Array.length_toList, Nat.mul_one], .inr ⟨w.heap.size, cur.size, cur, rfl, hbase, heap_alloc_new w _, Nat.le_refl _, hm, (Nat.mul_one _).symm, by rw [Nat.mul_one]; exact List.take_of_length_le (by rw [Array.length_toList]; exact Nat.le_refl _)⟩⟩

theorem dec_1 (v : Int) (h0 : 0 ≤ v) (h1 : v < 64) (bs : List Nat) : dec ((v).toNat :: bs) = some (v.toNat, 1) := by
  obtain ⟨n, rfl⟩ := Int.eq_ofNat_of_zero_le h0
  have b0 : n < 64 := by omega
  have f0 : ((n : Int)).toNat = n := by omega
  have hl : lenF (n) = 1 := by unfold lenF; (repeat' split) <;> omega
  have hm : (n) % 64 = n := by omega
  rw [f0]
  simp only [dec, hl, List.length_cons]
  rw [if_neg (by omega)]
  simp only [Option.some.injEq, Prod.mk.injEq, and_true, valF, Nat.reduceSub, List.take_succ_cons, List.take_zero, List.foldl_cons, List.foldl_nil, Int.toNat_natCast, hm]

theorem nodec_1 (v : Int) (h0 : 0 ≤ v) (h1 : v < 64) : dec ([]) = none := by
  rfl

set_option maxHeartbeats 4000000 in
theorem walk_1 (n form x v : Int) (bs : List Nat) (A : Option Addr) (cap : Nat) (w : World) (hL : laidMetH Tryd.prog laids w) (wx : Hid (wid x ≠ 0))
    (PF : Hid (∀ W, Calls Tryd.prog 19 #[.int .i64 form, .int .i64 4] W fun e w' => e = .returned (.int .i64 0) ∧ W = w'))
    (HN : Hid (∀ W, Calls Tryd.prog 18 #[.int .i64 n] W fun e w' => e = .returned (.int .i64 x) ∧ W = w'))
    (hc : ((wid x : Int) ≤ 1 ∧ Hid (x = v)) ∨ ((1 : Int) < wid x ∧ Hid (∀ W, Calls Tryd.prog 19 #[.int .i64 x, .int .i64 64] W fun e w' => e = .returned (.int .i64 v) ∧ W = w')))
    (hv0 : 0 ≤ v) (hv1 : v < 64) (hb : IsBytes w A cap bs) :
    Calls Tryd.prog 7 #[.int .i64 n, .int .i64 form, .slice A bs.length cap] w fun e w' => e = .returned (.bool true) ∧ Below w.heap.size w w' := by
  have hmk : ∀ w : World, (Instr.makeSlice 22 (.int .i64 1) (.int .i64 1)).run Tryd.prog w = .ok (.slice (some ⟨w.heap.size, 0, none⟩) 1 1) (w.alloc (.cells #[.int .u8 0] 5)) := fun _ => by kernel_rfl
  have HT := Lib.hid (tabs_of hL)
  have HL := Lib.hid hL
  have HB := Lib.hid hb
  have hnn : 0 ≤ v := by omega
  have nn0 := Lib.hid (show 0 ≤ v by omega)
  obtain ⟨i0, hi, hz0, hz1, hz2⟩ := info_parts info5
  have HI := Lib.hid (And.intro hi (And.intro hz0 (And.intro hz1 hz2)))
  clear hi hz0 hz1 hz2 hL hb HT
  rcases hc with ⟨h1, h2⟩ | ⟨h1, h2⟩
  · have e : v = x := h2.out.symm
    clear h2
    subst e
    · go_enter Tryd.func7, Tryd.ntmps7
      go_wp2_with fail
      refine (PF.out _).mono ?_; rintro e w' ⟨rfl, rfl⟩
      go_wp2_with fail
      refine (HN.out _).mono ?_; rintro e w' ⟨rfl, rfl⟩
      go_wp2_with fail
      refine (size_one v _ _ (cell_at _ _ _ _ rfl) wx.out).mono ?_; rintro e w' ⟨rfl, rfl⟩
      go_wp2_with fail
      refine wp_loop_rounds 2 ?_
      rw [rounds_succ]; go_wp2_with fail
      rw [rounds_succ]
      go_wp2_with (at_builtin; refine wpList_appf _ rfl _ _ 22 rfl w.heap.size 5 i0 (.int .u8 0) 1 Tryd.underlying22 HI.out.1 HI.out.2.1 HI.out.2.2.1 HI.out.2.2.2 rfl (w.heap.size + 1) 1 [.int .u8 (v)] rfl ?c0 w.heap.size A bs.length cap (bv bs) rfl ?c3 ?c4 ?c5 ?c6 ?_)
      case c0 => exact own_at (w.alloc (.cells #[Value.int .i64 v] 3)) #[.int .u8 (v)] 1 (w.heap.size + 1) w.heap.size (World.size_alloc _ _).symm rfl (by unfold maxLen; decide) (Nat.le_trans (Nat.le_succ _) (Nat.le_of_eq (World.size_alloc _ _).symm))
      case c3 => exact HB.out.rd.below (((Below.refl _ _).alloc (Nat.le_refl _) _).alloc (by simp) _) (Nat.le_refl _)
      case c4 => have := HB.out.reach; unfold maxLen; omega
      case c5 => have := HB.out.reach; omega
      case c6 => simp only [World.size_alloc]; omega
      intro v1 w1 hown1 hb1
      have HB0 : Hid (Below w.heap.size w w1) := (((Below.refl _ _).alloc (Nat.le_refl _) _).alloc (by simp) _).trans (hb1.mono (by omega))
      have HC1 : Hid (∀ j u, ([.int .u8 (v)] : List Value)[j]? = some u → w1.cell? ⟨w.heap.size + 1, 0 + j, none⟩ = some u) := fun j u hu => by
        rw [hb1.cell (p := ⟨w.heap.size + 1, 0 + j, none⟩) (show w.heap.size + 1 < w.heap.size + 1 + 1 by omega)]
        have h := (own_at (w.alloc (.cells #[Value.int .i64 v] 3)) #[.int .u8 (v)] 1 (w.heap.size + 1) w.heap.size (World.size_alloc _ _).symm rfl (by unfold maxLen; decide) (Nat.le_trans (Nat.le_succ _) (Nat.le_of_eq (World.size_alloc _ _).symm))).cells (g := w.heap.size + 1) rfl j u hu
        rw [Addr.add_lit] at h
        exact h
      have hsz1 : w.heap.size + 1 < w1.heap.size := by have := hb1.size; simp only [World.size_alloc] at this; omega
      clear hb1
      obtain ⟨A1, c1, rfl, hc1, _, _, hr1⟩ := own_form hown1
      have HR1 := Lib.hid hr1
      clear hr1 hown1
      have e0 : (((v).toNat : Nat) : Int) = v := Int.toNat_of_nonneg nn0.out
      have ebv : (Value.int .u8 (v) :: bv bs : List Value) = bv ((v).toNat :: bs) := by
        simp only [bv, List.map_cons, e0]
      have T1 : Hid (Calls Tryd.prog 11 #[.slice A1 (1 + bs.length) c1] w1 fun e w' => ∃ A' c', e = .returned (.tuple #[.int .i64 v, .slice A' bs.length c', .int .i64 0]) ∧ Hid (bs.length ≤ c' ∧ Rd w' w'.heap.size A' bs.length (bv bs) ∧ Below w1.heap.size w1 w')) := by
        have hr := HR1.out
        rw [ebv] at hr
        have el : ((v).toNat :: bs).length = 1 + bs.length := by simp only [List.length_cons]; omega
        have h := take_yes ((v).toNat :: bs) w1.heap.size A1 c1 w1 (by rw [el]; exact hr) (Nat.le_refl _) (fun c hc => by
          simp only [List.mem_cons] at hc
          rcases hc with rfl | h
          · omega
          · exact HB.out.lt c h) (by rw [el]; exact hc1) (by have := HB.out.reach; rw [el]; omega) v.toNat 1 (dec_1 v hv0 hv1 bs)
        rw [el] at h
        refine h.mono ?_
        rintro e w' ⟨A', c', rfl, hh⟩
        have h1 := hh.out.1
        have h3 := hh.out.2.2.1
        have h4 := hh.out.2.2.2
        rw [Nat.add_sub_cancel_left] at h1 h3 ⊢
        exact ⟨A', c', by rw [Int.toNat_of_nonneg hv0], h1, h3, h4⟩
      go_wp2_with fail
      refine T1.out.mono ?_; rintro e w2 ⟨A2, c2, rfl, H2⟩
      have HB2 : Hid (Below w.heap.size w w2) := HB0.out.trans (H2.out.2.2.mono HB0.out.size)
      have T2 : Hid (Calls Tryd.prog 11 #[.slice (some ⟨w.heap.size + 1, 0, none⟩) 0 1] w2 fun e w' => e = .returned (.tuple #[.int .i64 0, .slice none 0 0, .int .i64 3]) ∧ w2 = w') :=
        take_none ([]) (w.heap.size + 2) (some ⟨w.heap.size + 1, 0, none⟩) 1 w2 ⟨rfl, fun _ => ⟨w.heap.size + 1, 0, rfl, by omega, fun j u hu => by
          rw [H2.out.2.2.cell (p := ⟨w.heap.size + 1, 0 + j, none⟩) hsz1]
          refine HC1.out j u ?_
          simp only [bv, List.map_cons, List.map_nil, e0] at hu
          simp at hu⟩⟩ (fun c hc => by
          simp only [List.mem_cons, List.not_mem_nil, or_false] at hc
          all_goals exact hc.elim) (by simp only [List.length_cons, List.length_nil]; omega) (by simp only [List.length_cons, List.length_nil]; omega) (nodec_1 v hv0 hv1)
      clear T1
      go_wp2_with fail
      refine T2.out.mono ?_; rintro e w' ⟨rfl, rfl⟩
      clear T2
      go_wp2_with fail
      refine (known_any HL.out HB2.out).mono ?_; rintro e w3 ⟨rfl, hb3⟩
      have HB3 : Hid (Below w.heap.size w w3) := HB2.out.trans (hb3.mono HB2.out.size)
      have k1 := conv_run (P := Tryd.prog) w3 22 9 5 Tryd.underlying22 Tryd.underlying5 Tryd.underlying9 w2.heap.size A2 bs.length c2 bs (H2.out.2.1.below hb3 (Nat.le_refl _))
      have k2 := conv_run (P := Tryd.prog) w3 22 9 5 Tryd.underlying22 Tryd.underlying5 Tryd.underlying9 w.heap.size A bs.length cap bs (HB.out.rd.below HB3.out (Nat.le_refl _))
      clear hb3
      go_wp2
      go_ret
      exact ⟨by simp, HB3.out⟩

  · · go_enter Tryd.func7, Tryd.ntmps7
      go_wp2_with fail
      refine (PF.out _).mono ?_; rintro e w' ⟨rfl, rfl⟩
      go_wp2_with fail
      refine (HN.out _).mono ?_; rintro e w' ⟨rfl, rfl⟩
      go_wp2_with fail
      refine (size_one x _ _ (cell_at _ _ _ _ rfl) wx.out).mono ?_; rintro e w' ⟨rfl, rfl⟩
      go_wp2_with fail
      refine (h2.out _).mono ?_; rintro e w' ⟨rfl, rfl⟩
      go_wp2_with fail
      refine wp_loop_rounds 2 ?_
      rw [rounds_succ]; go_wp2_with fail
      rw [rounds_succ]
      go_wp2_with (at_builtin; refine wpList_appf _ rfl _ _ 22 rfl w.heap.size 5 i0 (.int .u8 0) 1 Tryd.underlying22 HI.out.1 HI.out.2.1 HI.out.2.2.1 HI.out.2.2.2 rfl (w.heap.size + 1) 1 [.int .u8 (v)] rfl ?c0 w.heap.size A bs.length cap (bv bs) rfl ?c3 ?c4 ?c5 ?c6 ?_)
      case c0 => exact own_at (w.alloc (.cells #[Value.int .i64 x] 3)) #[.int .u8 (v)] 1 (w.heap.size + 1) w.heap.size (World.size_alloc _ _).symm rfl (by unfold maxLen; decide) (Nat.le_trans (Nat.le_succ _) (Nat.le_of_eq (World.size_alloc _ _).symm))
      case c3 => exact HB.out.rd.below (((Below.refl _ _).alloc (Nat.le_refl _) _).alloc (by simp) _) (Nat.le_refl _)
      case c4 => have := HB.out.reach; unfold maxLen; omega
      case c5 => have := HB.out.reach; omega
      case c6 => simp only [World.size_alloc]; omega
      intro v1 w1 hown1 hb1
      have HB0 : Hid (Below w.heap.size w w1) := (((Below.refl _ _).alloc (Nat.le_refl _) _).alloc (by simp) _).trans (hb1.mono (by omega))
      have HC1 : Hid (∀ j u, ([.int .u8 (v)] : List Value)[j]? = some u → w1.cell? ⟨w.heap.size + 1, 0 + j, none⟩ = some u) := fun j u hu => by
        rw [hb1.cell (p := ⟨w.heap.size + 1, 0 + j, none⟩) (show w.heap.size + 1 < w.heap.size + 1 + 1 by omega)]
        have h := (own_at (w.alloc (.cells #[Value.int .i64 x] 3)) #[.int .u8 (v)] 1 (w.heap.size + 1) w.heap.size (World.size_alloc _ _).symm rfl (by unfold maxLen; decide) (Nat.le_trans (Nat.le_succ _) (Nat.le_of_eq (World.size_alloc _ _).symm))).cells (g := w.heap.size + 1) rfl j u hu
        rw [Addr.add_lit] at h
        exact h
      have hsz1 : w.heap.size + 1 < w1.heap.size := by have := hb1.size; simp only [World.size_alloc] at this; omega
      clear hb1
      obtain ⟨A1, c1, rfl, hc1, _, _, hr1⟩ := own_form hown1
      have HR1 := Lib.hid hr1
      clear hr1 hown1
      have e0 : (((v).toNat : Nat) : Int) = v := Int.toNat_of_nonneg nn0.out
      have ebv : (Value.int .u8 (v) :: bv bs : List Value) = bv ((v).toNat :: bs) := by
        simp only [bv, List.map_cons, e0]
      have T1 : Hid (Calls Tryd.prog 11 #[.slice A1 (1 + bs.length) c1] w1 fun e w' => ∃ A' c', e = .returned (.tuple #[.int .i64 v, .slice A' bs.length c', .int .i64 0]) ∧ Hid (bs.length ≤ c' ∧ Rd w' w'.heap.size A' bs.length (bv bs) ∧ Below w1.heap.size w1 w')) := by
        have hr := HR1.out
        rw [ebv] at hr
        have el : ((v).toNat :: bs).length = 1 + bs.length := by simp only [List.length_cons]; omega
        have h := take_yes ((v).toNat :: bs) w1.heap.size A1 c1 w1 (by rw [el]; exact hr) (Nat.le_refl _) (fun c hc => by
          simp only [List.mem_cons] at hc
          rcases hc with rfl | h
          · omega
          · exact HB.out.lt c h) (by rw [el]; exact hc1) (by have := HB.out.reach; rw [el]; omega) v.toNat 1 (dec_1 v hv0 hv1 bs)
        rw [el] at h
        refine h.mono ?_
        rintro e w' ⟨A', c', rfl, hh⟩
        have h1 := hh.out.1
        have h3 := hh.out.2.2.1
        have h4 := hh.out.2.2.2
        rw [Nat.add_sub_cancel_left] at h1 h3 ⊢
        exact ⟨A', c', by rw [Int.toNat_of_nonneg hv0], h1, h3, h4⟩
      go_wp2_with fail
      refine T1.out.mono ?_; rintro e w2 ⟨A2, c2, rfl, H2⟩
      have HB2 : Hid (Below w.heap.size w w2) := HB0.out.trans (H2.out.2.2.mono HB0.out.size)
      have T2 : Hid (Calls Tryd.prog 11 #[.slice (some ⟨w.heap.size + 1, 0, none⟩) 0 1] w2 fun e w' => e = .returned (.tuple #[.int .i64 0, .slice none 0 0, .int .i64 3]) ∧ w2 = w') :=
        take_none ([]) (w.heap.size + 2) (some ⟨w.heap.size + 1, 0, none⟩) 1 w2 ⟨rfl, fun _ => ⟨w.heap.size + 1, 0, rfl, by omega, fun j u hu => by
          rw [H2.out.2.2.cell (p := ⟨w.heap.size + 1, 0 + j, none⟩) hsz1]
          refine HC1.out j u ?_
          simp only [bv, List.map_cons, List.map_nil, e0] at hu
          simp at hu⟩⟩ (fun c hc => by
          simp only [List.mem_cons, List.not_mem_nil, or_false] at hc
          all_goals exact hc.elim) (by simp only [List.length_cons, List.length_nil]; omega) (by simp only [List.length_cons, List.length_nil]; omega) (nodec_1 v hv0 hv1)
      clear T1
      go_wp2_with fail
      refine T2.out.mono ?_; rintro e w' ⟨rfl, rfl⟩
      clear T2
      go_wp2_with fail
      refine (known_any HL.out HB2.out).mono ?_; rintro e w3 ⟨rfl, hb3⟩
      have HB3 : Hid (Below w.heap.size w w3) := HB2.out.trans (hb3.mono HB2.out.size)
      have k1 := conv_run (P := Tryd.prog) w3 22 9 5 Tryd.underlying22 Tryd.underlying5 Tryd.underlying9 w2.heap.size A2 bs.length c2 bs (H2.out.2.1.below hb3 (Nat.le_refl _))
      have k2 := conv_run (P := Tryd.prog) w3 22 9 5 Tryd.underlying22 Tryd.underlying5 Tryd.underlying9 w.heap.size A bs.length cap bs (HB.out.rd.below HB3.out (Nat.le_refl _))
      clear hb3
      go_wp2
      go_ret
      exact ⟨by simp, HB3.out⟩


theorem dec_2 (v : Int) (h0 : 0 ≤ v) (h1 : v < 16384) (bs : List Nat) : dec ((v / 256 + 64).toNat :: (v % 256).toNat :: bs) = some (v.toNat, 2) := by
  obtain ⟨n, rfl⟩ := Int.eq_ofNat_of_zero_le h0
  have b0 : n < 16384 := by omega
  have b1 : n / 256 < 64 := by omega
  have c1 : (n : Int) / 256 = ((n / 256 : Nat) : Int) := by omega
  have f0 : ((n : Int) / 256 + 64).toNat = n / 256 + 64 := by rw [c1]; omega
  have f1 : ((n : Int) % 256).toNat = n % 256 := by omega
  have hl : lenF (n / 256 + 64) = 2 := by unfold lenF; (repeat' split) <;> omega
  have hm : (n / 256 + 64) % 64 = n / 256 := by omega
  have g0 : n / 256 * 256 + n % 256 = n := Nat.div_add_mod' _ _
  rw [f0, f1]
  simp only [dec, hl, List.length_cons]
  rw [if_neg (by omega)]
  simp only [Option.some.injEq, Prod.mk.injEq, and_true, valF, Nat.reduceSub, List.take_succ_cons, List.take_zero, List.foldl_cons, List.foldl_nil, Int.toNat_natCast, hm, g0]

theorem nodec_2 (v : Int) (h0 : 0 ≤ v) (h1 : v < 16384) : dec ((v / 256 + 64).toNat :: []) = none := by
  have hl : lenF (v / 256 + 64).toNat = 2 := by unfold lenF; (repeat' split) <;> omega
  simp [dec, hl]

set_option maxHeartbeats 4000000 in
theorem walk_2 (n form x v : Int) (bs : List Nat) (A : Option Addr) (cap : Nat) (w : World) (hL : laidMetH Tryd.prog laids w) (wx : Hid (wid x ≠ 0))
    (PF : Hid (∀ W, Calls Tryd.prog 19 #[.int .i64 form, .int .i64 4] W fun e w' => e = .returned (.int .i64 1) ∧ W = w'))
    (HN : Hid (∀ W, Calls Tryd.prog 18 #[.int .i64 n] W fun e w' => e = .returned (.int .i64 x) ∧ W = w'))
    (hc : ((wid x : Int) ≤ 2 ∧ Hid (x = v)) ∨ ((2 : Int) < wid x ∧ Hid (∀ W, Calls Tryd.prog 19 #[.int .i64 x, .int .i64 64] W fun e w' => e = .returned (.int .i64 v) ∧ W = w')))
    (hv0 : 0 ≤ v) (hv1 : v < 16384) (hb : IsBytes w A cap bs) :
    Calls Tryd.prog 7 #[.int .i64 n, .int .i64 form, .slice A bs.length cap] w fun e w' => e = .returned (.bool true) ∧ Below w.heap.size w w' := by
  have hmk : ∀ w : World, (Instr.makeSlice 22 (.int .i64 2) (.int .i64 2)).run Tryd.prog w = .ok (.slice (some ⟨w.heap.size, 0, none⟩) 2 2) (w.alloc (.cells #[.int .u8 0, .int .u8 0] 5)) := fun _ => by kernel_rfl
  have HT := Lib.hid (tabs_of hL)
  have HL := Lib.hid hL
  have HB := Lib.hid hb
  have hnn : 0 ≤ v / 256 + 64 := by omega
  have nn0 := Lib.hid (show 0 ≤ v / 256 + 64 by omega)
  have nn1 := Lib.hid (show 0 ≤ v % 256 by omega)
  obtain ⟨i0, hi, hz0, hz1, hz2⟩ := info_parts info5
  have HI := Lib.hid (And.intro hi (And.intro hz0 (And.intro hz1 hz2)))
  clear hi hz0 hz1 hz2 hL hb HT
  rcases hc with ⟨h1, h2⟩ | ⟨h1, h2⟩
  · have e : v = x := h2.out.symm
    clear h2
    subst e
    · go_enter Tryd.func7, Tryd.ntmps7
      go_wp2_with fail
      refine (PF.out _).mono ?_; rintro e w' ⟨rfl, rfl⟩
      go_wp2_with fail
      refine (HN.out _).mono ?_; rintro e w' ⟨rfl, rfl⟩
      go_wp2_with fail
      refine (size_one v _ _ (cell_at _ _ _ _ rfl) wx.out).mono ?_; rintro e w' ⟨rfl, rfl⟩
      go_wp2_with fail
      refine wp_loop_rounds 3 ?_
      rw [rounds_succ]; go_wp2_with fail
      rw [rounds_succ]; go_wp2_with fail
      rw [rounds_succ]
      go_wp2_with (at_builtin; refine wpList_appf _ rfl _ _ 22 rfl w.heap.size 5 i0 (.int .u8 0) 1 Tryd.underlying22 HI.out.1 HI.out.2.1 HI.out.2.2.1 HI.out.2.2.2 rfl (w.heap.size + 1) 2 [.int .u8 (v / 256 + 64), .int .u8 (v % 256)] rfl ?c0 w.heap.size A bs.length cap (bv bs) rfl ?c3 ?c4 ?c5 ?c6 ?_)
      case c0 => exact own_at (w.alloc (.cells #[Value.int .i64 v] 3)) #[.int .u8 (v / 256 + 64), .int .u8 (v % 256)] 2 (w.heap.size + 1) w.heap.size (World.size_alloc _ _).symm rfl (by unfold maxLen; decide) (Nat.le_trans (Nat.le_succ _) (Nat.le_of_eq (World.size_alloc _ _).symm))
      case c3 => exact HB.out.rd.below (((Below.refl _ _).alloc (Nat.le_refl _) _).alloc (by simp) _) (Nat.le_refl _)
      case c4 => have := HB.out.reach; unfold maxLen; omega
      case c5 => have := HB.out.reach; omega
      case c6 => simp only [World.size_alloc]; omega
      intro v1 w1 hown1 hb1
      have HB0 : Hid (Below w.heap.size w w1) := (((Below.refl _ _).alloc (Nat.le_refl _) _).alloc (by simp) _).trans (hb1.mono (by omega))
      have HC1 : Hid (∀ j u, ([.int .u8 (v / 256 + 64), .int .u8 (v % 256)] : List Value)[j]? = some u → w1.cell? ⟨w.heap.size + 1, 0 + j, none⟩ = some u) := fun j u hu => by
        rw [hb1.cell (p := ⟨w.heap.size + 1, 0 + j, none⟩) (show w.heap.size + 1 < w.heap.size + 1 + 1 by omega)]
        have h := (own_at (w.alloc (.cells #[Value.int .i64 v] 3)) #[.int .u8 (v / 256 + 64), .int .u8 (v % 256)] 2 (w.heap.size + 1) w.heap.size (World.size_alloc _ _).symm rfl (by unfold maxLen; decide) (Nat.le_trans (Nat.le_succ _) (Nat.le_of_eq (World.size_alloc _ _).symm))).cells (g := w.heap.size + 1) rfl j u hu
        rw [Addr.add_lit] at h
        exact h
      have hsz1 : w.heap.size + 1 < w1.heap.size := by have := hb1.size; simp only [World.size_alloc] at this; omega
      clear hb1
      obtain ⟨A1, c1, rfl, hc1, _, _, hr1⟩ := own_form hown1
      have HR1 := Lib.hid hr1
      clear hr1 hown1
      have e0 : (((v / 256 + 64).toNat : Nat) : Int) = v / 256 + 64 := Int.toNat_of_nonneg nn0.out
      have e1 : (((v % 256).toNat : Nat) : Int) = v % 256 := Int.toNat_of_nonneg nn1.out
      have ebv : (Value.int .u8 (v / 256 + 64) :: Value.int .u8 (v % 256) :: bv bs : List Value) = bv ((v / 256 + 64).toNat :: (v % 256).toNat :: bs) := by
        simp only [bv, List.map_cons, e0, e1]
      have T1 : Hid (Calls Tryd.prog 11 #[.slice A1 (2 + bs.length) c1] w1 fun e w' => ∃ A' c', e = .returned (.tuple #[.int .i64 v, .slice A' bs.length c', .int .i64 0]) ∧ Hid (bs.length ≤ c' ∧ Rd w' w'.heap.size A' bs.length (bv bs) ∧ Below w1.heap.size w1 w')) := by
        have hr := HR1.out
        rw [ebv] at hr
        have el : ((v / 256 + 64).toNat :: (v % 256).toNat :: bs).length = 2 + bs.length := by simp only [List.length_cons]; omega
        have h := take_yes ((v / 256 + 64).toNat :: (v % 256).toNat :: bs) w1.heap.size A1 c1 w1 (by rw [el]; exact hr) (Nat.le_refl _) (fun c hc => by
          simp only [List.mem_cons] at hc
          rcases hc with rfl | rfl | h
          · omega
          · omega
          · exact HB.out.lt c h) (by rw [el]; exact hc1) (by have := HB.out.reach; rw [el]; omega) v.toNat 2 (dec_2 v hv0 hv1 bs)
        rw [el] at h
        refine h.mono ?_
        rintro e w' ⟨A', c', rfl, hh⟩
        have h1 := hh.out.1
        have h3 := hh.out.2.2.1
        have h4 := hh.out.2.2.2
        rw [Nat.add_sub_cancel_left] at h1 h3 ⊢
        exact ⟨A', c', by rw [Int.toNat_of_nonneg hv0], h1, h3, h4⟩
      go_wp2_with fail
      refine T1.out.mono ?_; rintro e w2 ⟨A2, c2, rfl, H2⟩
      have HB2 : Hid (Below w.heap.size w w2) := HB0.out.trans (H2.out.2.2.mono HB0.out.size)
      have T2 : Hid (Calls Tryd.prog 11 #[.slice (some ⟨w.heap.size + 1, 0, none⟩) 1 2] w2 fun e w' => e = .returned (.tuple #[.int .i64 0, .slice none 0 0, .int .i64 3]) ∧ w2 = w') :=
        take_none ((v / 256 + 64).toNat :: []) (w.heap.size + 2) (some ⟨w.heap.size + 1, 0, none⟩) 2 w2 ⟨rfl, fun _ => ⟨w.heap.size + 1, 0, rfl, by omega, fun j u hu => by
          rw [H2.out.2.2.cell (p := ⟨w.heap.size + 1, 0 + j, none⟩) hsz1]
          refine HC1.out j u ?_
          simp only [bv, List.map_cons, List.map_nil, e0, e1] at hu
          have hj : j < 1 := by have := (List.getElem?_eq_some_iff.1 hu).1; simpa using this
          match j, hj, hu with
          | 0, _, hu => simpa using hu⟩⟩ (fun c hc => by
          simp only [List.mem_cons, List.not_mem_nil, or_false] at hc
          rcases hc with rfl <;> omega) (by simp only [List.length_cons, List.length_nil]; omega) (by simp only [List.length_cons, List.length_nil]; omega) (nodec_2 v hv0 hv1)
      clear T1
      go_wp2_with fail
      refine T2.out.mono ?_; rintro e w' ⟨rfl, rfl⟩
      clear T2
      go_wp2_with fail
      refine (known_any HL.out HB2.out).mono ?_; rintro e w3 ⟨rfl, hb3⟩
      have HB3 : Hid (Below w.heap.size w w3) := HB2.out.trans (hb3.mono HB2.out.size)
      have k1 := conv_run (P := Tryd.prog) w3 22 9 5 Tryd.underlying22 Tryd.underlying5 Tryd.underlying9 w2.heap.size A2 bs.length c2 bs (H2.out.2.1.below hb3 (Nat.le_refl _))
      have k2 := conv_run (P := Tryd.prog) w3 22 9 5 Tryd.underlying22 Tryd.underlying5 Tryd.underlying9 w.heap.size A bs.length cap bs (HB.out.rd.below HB3.out (Nat.le_refl _))
      clear hb3
      go_wp2
      go_ret
      exact ⟨by simp, HB3.out⟩

  · · go_enter Tryd.func7, Tryd.ntmps7
      go_wp2_with fail
      refine (PF.out _).mono ?_; rintro e w' ⟨rfl, rfl⟩
      go_wp2_with fail
      refine (HN.out _).mono ?_; rintro e w' ⟨rfl, rfl⟩
      go_wp2_with fail
      refine (size_one x _ _ (cell_at _ _ _ _ rfl) wx.out).mono ?_; rintro e w' ⟨rfl, rfl⟩
      go_wp2_with fail
      refine (h2.out _).mono ?_; rintro e w' ⟨rfl, rfl⟩
      go_wp2_with fail
      refine wp_loop_rounds 3 ?_
      rw [rounds_succ]; go_wp2_with fail
      rw [rounds_succ]; go_wp2_with fail
      rw [rounds_succ]
      go_wp2_with (at_builtin; refine wpList_appf _ rfl _ _ 22 rfl w.heap.size 5 i0 (.int .u8 0) 1 Tryd.underlying22 HI.out.1 HI.out.2.1 HI.out.2.2.1 HI.out.2.2.2 rfl (w.heap.size + 1) 2 [.int .u8 (v / 256 + 64), .int .u8 (v % 256)] rfl ?c0 w.heap.size A bs.length cap (bv bs) rfl ?c3 ?c4 ?c5 ?c6 ?_)
      case c0 => exact own_at (w.alloc (.cells #[Value.int .i64 x] 3)) #[.int .u8 (v / 256 + 64), .int .u8 (v % 256)] 2 (w.heap.size + 1) w.heap.size (World.size_alloc _ _).symm rfl (by unfold maxLen; decide) (Nat.le_trans (Nat.le_succ _) (Nat.le_of_eq (World.size_alloc _ _).symm))
      case c3 => exact HB.out.rd.below (((Below.refl _ _).alloc (Nat.le_refl _) _).alloc (by simp) _) (Nat.le_refl _)
      case c4 => have := HB.out.reach; unfold maxLen; omega
      case c5 => have := HB.out.reach; omega
      case c6 => simp only [World.size_alloc]; omega
      intro v1 w1 hown1 hb1
      have HB0 : Hid (Below w.heap.size w w1) := (((Below.refl _ _).alloc (Nat.le_refl _) _).alloc (by simp) _).trans (hb1.mono (by omega))
      have HC1 : Hid (∀ j u, ([.int .u8 (v / 256 + 64), .int .u8 (v % 256)] : List Value)[j]? = some u → w1.cell? ⟨w.heap.size + 1, 0 + j, none⟩ = some u) := fun j u hu => by
        rw [hb1.cell (p := ⟨w.heap.size + 1, 0 + j, none⟩) (show w.heap.size + 1 < w.heap.size + 1 + 1 by omega)]
        have h := (own_at (w.alloc (.cells #[Value.int .i64 x] 3)) #[.int .u8 (v / 256 + 64), .int .u8 (v % 256)] 2 (w.heap.size + 1) w.heap.size (World.size_alloc _ _).symm rfl (by unfold maxLen; decide) (Nat.le_trans (Nat.le_succ _) (Nat.le_of_eq (World.size_alloc _ _).symm))).cells (g := w.heap.size + 1) rfl j u hu
        rw [Addr.add_lit] at h
        exact h
      have hsz1 : w.heap.size + 1 < w1.heap.size := by have := hb1.size; simp only [World.size_alloc] at this; omega
      clear hb1
      obtain ⟨A1, c1, rfl, hc1, _, _, hr1⟩ := own_form hown1
      have HR1 := Lib.hid hr1
      clear hr1 hown1
      have e0 : (((v / 256 + 64).toNat : Nat) : Int) = v / 256 + 64 := Int.toNat_of_nonneg nn0.out
      have e1 : (((v % 256).toNat : Nat) : Int) = v % 256 := Int.toNat_of_nonneg nn1.out
      have ebv : (Value.int .u8 (v / 256 + 64) :: Value.int .u8 (v % 256) :: bv bs : List Value) = bv ((v / 256 + 64).toNat :: (v % 256).toNat :: bs) := by
        simp only [bv, List.map_cons, e0, e1]
      have T1 : Hid (Calls Tryd.prog 11 #[.slice A1 (2 + bs.length) c1] w1 fun e w' => ∃ A' c', e = .returned (.tuple #[.int .i64 v, .slice A' bs.length c', .int .i64 0]) ∧ Hid (bs.length ≤ c' ∧ Rd w' w'.heap.size A' bs.length (bv bs) ∧ Below w1.heap.size w1 w')) := by
        have hr := HR1.out
        rw [ebv] at hr
        have el : ((v / 256 + 64).toNat :: (v % 256).toNat :: bs).length = 2 + bs.length := by simp only [List.length_cons]; omega
        have h := take_yes ((v / 256 + 64).toNat :: (v % 256).toNat :: bs) w1.heap.size A1 c1 w1 (by rw [el]; exact hr) (Nat.le_refl _) (fun c hc => by
          simp only [List.mem_cons] at hc
          rcases hc with rfl | rfl | h
          · omega
          · omega
          · exact HB.out.lt c h) (by rw [el]; exact hc1) (by have := HB.out.reach; rw [el]; omega) v.toNat 2 (dec_2 v hv0 hv1 bs)
        rw [el] at h
        refine h.mono ?_
        rintro e w' ⟨A', c', rfl, hh⟩
        have h1 := hh.out.1
        have h3 := hh.out.2.2.1
        have h4 := hh.out.2.2.2
        rw [Nat.add_sub_cancel_left] at h1 h3 ⊢
        exact ⟨A', c', by rw [Int.toNat_of_nonneg hv0], h1, h3, h4⟩
      go_wp2_with fail
      refine T1.out.mono ?_; rintro e w2 ⟨A2, c2, rfl, H2⟩
      have HB2 : Hid (Below w.heap.size w w2) := HB0.out.trans (H2.out.2.2.mono HB0.out.size)
      have T2 : Hid (Calls Tryd.prog 11 #[.slice (some ⟨w.heap.size + 1, 0, none⟩) 1 2] w2 fun e w' => e = .returned (.tuple #[.int .i64 0, .slice none 0 0, .int .i64 3]) ∧ w2 = w') :=
        take_none ((v / 256 + 64).toNat :: []) (w.heap.size + 2) (some ⟨w.heap.size + 1, 0, none⟩) 2 w2 ⟨rfl, fun _ => ⟨w.heap.size + 1, 0, rfl, by omega, fun j u hu => by
          rw [H2.out.2.2.cell (p := ⟨w.heap.size + 1, 0 + j, none⟩) hsz1]
          refine HC1.out j u ?_
          simp only [bv, List.map_cons, List.map_nil, e0, e1] at hu
          have hj : j < 1 := by have := (List.getElem?_eq_some_iff.1 hu).1; simpa using this
          match j, hj, hu with
          | 0, _, hu => simpa using hu⟩⟩ (fun c hc => by
          simp only [List.mem_cons, List.not_mem_nil, or_false] at hc
          rcases hc with rfl <;> omega) (by simp only [List.length_cons, List.length_nil]; omega) (by simp only [List.length_cons, List.length_nil]; omega) (nodec_2 v hv0 hv1)
      clear T1
      go_wp2_with fail
      refine T2.out.mono ?_; rintro e w' ⟨rfl, rfl⟩
      clear T2
      go_wp2_with fail
      refine (known_any HL.out HB2.out).mono ?_; rintro e w3 ⟨rfl, hb3⟩
      have HB3 : Hid (Below w.heap.size w w3) := HB2.out.trans (hb3.mono HB2.out.size)
      have k1 := conv_run (P := Tryd.prog) w3 22 9 5 Tryd.underlying22 Tryd.underlying5 Tryd.underlying9 w2.heap.size A2 bs.length c2 bs (H2.out.2.1.below hb3 (Nat.le_refl _))
      have k2 := conv_run (P := Tryd.prog) w3 22 9 5 Tryd.underlying22 Tryd.underlying5 Tryd.underlying9 w.heap.size A bs.length cap bs (HB.out.rd.below HB3.out (Nat.le_refl _))
      clear hb3
      go_wp2
      go_ret
      exact ⟨by simp, HB3.out⟩


theorem dec_4 (v : Int) (h0 : 0 ≤ v) (h1 : v < 1073741824) (bs : List Nat) : dec ((v / 256 / 256 / 256 + 128).toNat :: (v / 256 / 256 % 256).toNat :: (v / 256 % 256).toNat :: (v % 256).toNat :: bs) = some (v.toNat, 4) := by
  obtain ⟨n, rfl⟩ := Int.eq_ofNat_of_zero_le h0
  have b0 : n < 1073741824 := by omega
  have b1 : n / 256 < 4194304 := by omega
  have b2 : n / 256 / 256 < 16384 := by omega
  have b3 : n / 256 / 256 / 256 < 64 := by omega
  have c1 : (n : Int) / 256 = ((n / 256 : Nat) : Int) := by omega
  have c2 : (n : Int) / 256 / 256 = ((n / 256 / 256 : Nat) : Int) := by omega
  have c3 : (n : Int) / 256 / 256 / 256 = ((n / 256 / 256 / 256 : Nat) : Int) := by omega
  have f0 : ((n : Int) / 256 / 256 / 256 + 128).toNat = n / 256 / 256 / 256 + 128 := by rw [c3]; omega
  have f1 : ((n : Int) / 256 / 256 % 256).toNat = n / 256 / 256 % 256 := by rw [c2]; omega
  have f2 : ((n : Int) / 256 % 256).toNat = n / 256 % 256 := by rw [c1]; omega
  have f3 : ((n : Int) % 256).toNat = n % 256 := by omega
  have hl : lenF (n / 256 / 256 / 256 + 128) = 4 := by unfold lenF; (repeat' split) <;> omega
  have hm : (n / 256 / 256 / 256 + 128) % 64 = n / 256 / 256 / 256 := by omega
  have g2 : n / 256 / 256 / 256 * 256 + n / 256 / 256 % 256 = n / 256 / 256 := Nat.div_add_mod' _ _
  have g1 : n / 256 / 256 * 256 + n / 256 % 256 = n / 256 := Nat.div_add_mod' _ _
  have g0 : n / 256 * 256 + n % 256 = n := Nat.div_add_mod' _ _
  rw [f0, f1, f2, f3]
  simp only [dec, hl, List.length_cons]
  rw [if_neg (by omega)]
  simp only [Option.some.injEq, Prod.mk.injEq, and_true, valF, Nat.reduceSub, List.take_succ_cons, List.take_zero, List.foldl_cons, List.foldl_nil, Int.toNat_natCast, hm, g2, g1, g0]

theorem nodec_4 (v : Int) (h0 : 0 ≤ v) (h1 : v < 1073741824) : dec ((v / 256 / 256 / 256 + 128).toNat :: (v / 256 / 256 % 256).toNat :: (v / 256 % 256).toNat :: []) = none := by
  have hl : lenF (v / 256 / 256 / 256 + 128).toNat = 4 := by unfold lenF; (repeat' split) <;> omega
  simp [dec, hl]

set_option maxHeartbeats 4000000 in
theorem walk_4 (n form x v : Int) (bs : List Nat) (A : Option Addr) (cap : Nat) (w : World) (hL : laidMetH Tryd.prog laids w) (wx : Hid (wid x ≠ 0))
    (PF : Hid (∀ W, Calls Tryd.prog 19 #[.int .i64 form, .int .i64 4] W fun e w' => e = .returned (.int .i64 2) ∧ W = w'))
    (HN : Hid (∀ W, Calls Tryd.prog 18 #[.int .i64 n] W fun e w' => e = .returned (.int .i64 x) ∧ W = w'))
    (hc : ((wid x : Int) ≤ 4 ∧ Hid (x = v)) ∨ ((4 : Int) < wid x ∧ Hid (∀ W, Calls Tryd.prog 19 #[.int .i64 x, .int .i64 64] W fun e w' => e = .returned (.int .i64 v) ∧ W = w')))
    (hv0 : 0 ≤ v) (hv1 : v < 1073741824) (hb : IsBytes w A cap bs) :
    Calls Tryd.prog 7 #[.int .i64 n, .int .i64 form, .slice A bs.length cap] w fun e w' => e = .returned (.bool true) ∧ Below w.heap.size w w' := by
  have hmk : ∀ w : World, (Instr.makeSlice 22 (.int .i64 4) (.int .i64 4)).run Tryd.prog w = .ok (.slice (some ⟨w.heap.size, 0, none⟩) 4 4) (w.alloc (.cells #[.int .u8 0, .int .u8 0, .int .u8 0, .int .u8 0] 5)) := fun _ => by kernel_rfl
  have HT := Lib.hid (tabs_of hL)
  have HL := Lib.hid hL
  have HB := Lib.hid hb
  have hnn : 0 ≤ v / 256 / 256 / 256 + 128 := by omega
  have nn0 := Lib.hid (show 0 ≤ v / 256 / 256 / 256 + 128 by omega)
  have nn1 := Lib.hid (show 0 ≤ v / 256 / 256 % 256 by omega)
  have nn2 := Lib.hid (show 0 ≤ v / 256 % 256 by omega)
  have nn3 := Lib.hid (show 0 ≤ v % 256 by omega)
  obtain ⟨i0, hi, hz0, hz1, hz2⟩ := info_parts info5
  have HI := Lib.hid (And.intro hi (And.intro hz0 (And.intro hz1 hz2)))
  clear hi hz0 hz1 hz2 hL hb HT
  rcases hc with ⟨h1, h2⟩ | ⟨h1, h2⟩
  · have e : v = x := h2.out.symm
    clear h2
    subst e
    · go_enter Tryd.func7, Tryd.ntmps7
      go_wp2_with fail
      refine (PF.out _).mono ?_; rintro e w' ⟨rfl, rfl⟩
      go_wp2_with fail
      refine (HN.out _).mono ?_; rintro e w' ⟨rfl, rfl⟩
      go_wp2_with fail
      refine (size_one v _ _ (cell_at _ _ _ _ rfl) wx.out).mono ?_; rintro e w' ⟨rfl, rfl⟩
      go_wp2_with fail
      refine wp_loop_rounds 5 ?_
      rw [rounds_succ]; go_wp2_with fail
      rw [rounds_succ]; go_wp2_with fail
      rw [rounds_succ]; go_wp2_with fail
      rw [rounds_succ]; go_wp2_with fail
      rw [rounds_succ]
      go_wp2_with (at_builtin; refine wpList_appf _ rfl _ _ 22 rfl w.heap.size 5 i0 (.int .u8 0) 1 Tryd.underlying22 HI.out.1 HI.out.2.1 HI.out.2.2.1 HI.out.2.2.2 rfl (w.heap.size + 1) 4 [.int .u8 (v / 256 / 256 / 256 + 128), .int .u8 (v / 256 / 256 % 256), .int .u8 (v / 256 % 256), .int .u8 (v % 256)] rfl ?c0 w.heap.size A bs.length cap (bv bs) rfl ?c3 ?c4 ?c5 ?c6 ?_)
      case c0 => exact own_at (w.alloc (.cells #[Value.int .i64 v] 3)) #[.int .u8 (v / 256 / 256 / 256 + 128), .int .u8 (v / 256 / 256 % 256), .int .u8 (v / 256 % 256), .int .u8 (v % 256)] 4 (w.heap.size + 1) w.heap.size (World.size_alloc _ _).symm rfl (by unfold maxLen; decide) (Nat.le_trans (Nat.le_succ _) (Nat.le_of_eq (World.size_alloc _ _).symm))
      case c3 => exact HB.out.rd.below (((Below.refl _ _).alloc (Nat.le_refl _) _).alloc (by simp) _) (Nat.le_refl _)
      case c4 => have := HB.out.reach; unfold maxLen; omega
      case c5 => have := HB.out.reach; omega
      case c6 => simp only [World.size_alloc]; omega
      intro v1 w1 hown1 hb1
      have HB0 : Hid (Below w.heap.size w w1) := (((Below.refl _ _).alloc (Nat.le_refl _) _).alloc (by simp) _).trans (hb1.mono (by omega))
      have HC1 : Hid (∀ j u, ([.int .u8 (v / 256 / 256 / 256 + 128), .int .u8 (v / 256 / 256 % 256), .int .u8 (v / 256 % 256), .int .u8 (v % 256)] : List Value)[j]? = some u → w1.cell? ⟨w.heap.size + 1, 0 + j, none⟩ = some u) := fun j u hu => by
        rw [hb1.cell (p := ⟨w.heap.size + 1, 0 + j, none⟩) (show w.heap.size + 1 < w.heap.size + 1 + 1 by omega)]
        have h := (own_at (w.alloc (.cells #[Value.int .i64 v] 3)) #[.int .u8 (v / 256 / 256 / 256 + 128), .int .u8 (v / 256 / 256 % 256), .int .u8 (v / 256 % 256), .int .u8 (v % 256)] 4 (w.heap.size + 1) w.heap.size (World.size_alloc _ _).symm rfl (by unfold maxLen; decide) (Nat.le_trans (Nat.le_succ _) (Nat.le_of_eq (World.size_alloc _ _).symm))).cells (g := w.heap.size + 1) rfl j u hu
        rw [Addr.add_lit] at h
        exact h
      have hsz1 : w.heap.size + 1 < w1.heap.size := by have := hb1.size; simp only [World.size_alloc] at this; omega
      clear hb1
      obtain ⟨A1, c1, rfl, hc1, _, _, hr1⟩ := own_form hown1
      have HR1 := Lib.hid hr1
      clear hr1 hown1
      have e0 : (((v / 256 / 256 / 256 + 128).toNat : Nat) : Int) = v / 256 / 256 / 256 + 128 := Int.toNat_of_nonneg nn0.out
      have e1 : (((v / 256 / 256 % 256).toNat : Nat) : Int) = v / 256 / 256 % 256 := Int.toNat_of_nonneg nn1.out
      have e2 : (((v / 256 % 256).toNat : Nat) : Int) = v / 256 % 256 := Int.toNat_of_nonneg nn2.out
      have e3 : (((v % 256).toNat : Nat) : Int) = v % 256 := Int.toNat_of_nonneg nn3.out
      have ebv : (Value.int .u8 (v / 256 / 256 / 256 + 128) :: Value.int .u8 (v / 256 / 256 % 256) :: Value.int .u8 (v / 256 % 256) :: Value.int .u8 (v % 256) :: bv bs : List Value) = bv ((v / 256 / 256 / 256 + 128).toNat :: (v / 256 / 256 % 256).toNat :: (v / 256 % 256).toNat :: (v % 256).toNat :: bs) := by
        simp only [bv, List.map_cons, e0, e1, e2, e3]
      have T1 : Hid (Calls Tryd.prog 11 #[.slice A1 (4 + bs.length) c1] w1 fun e w' => ∃ A' c', e = .returned (.tuple #[.int .i64 v, .slice A' bs.length c', .int .i64 0]) ∧ Hid (bs.length ≤ c' ∧ Rd w' w'.heap.size A' bs.length (bv bs) ∧ Below w1.heap.size w1 w')) := by
        have hr := HR1.out
        rw [ebv] at hr
        have el : ((v / 256 / 256 / 256 + 128).toNat :: (v / 256 / 256 % 256).toNat :: (v / 256 % 256).toNat :: (v % 256).toNat :: bs).length = 4 + bs.length := by simp only [List.length_cons]; omega
        have h := take_yes ((v / 256 / 256 / 256 + 128).toNat :: (v / 256 / 256 % 256).toNat :: (v / 256 % 256).toNat :: (v % 256).toNat :: bs) w1.heap.size A1 c1 w1 (by rw [el]; exact hr) (Nat.le_refl _) (fun c hc => by
          simp only [List.mem_cons] at hc
          rcases hc with rfl | rfl | rfl | rfl | h
          · omega
          · omega
          · omega
          · omega
          · exact HB.out.lt c h) (by rw [el]; exact hc1) (by have := HB.out.reach; rw [el]; omega) v.toNat 4 (dec_4 v hv0 hv1 bs)
        rw [el] at h
        refine h.mono ?_
        rintro e w' ⟨A', c', rfl, hh⟩
        have h1 := hh.out.1
        have h3 := hh.out.2.2.1
        have h4 := hh.out.2.2.2
        rw [Nat.add_sub_cancel_left] at h1 h3 ⊢
        exact ⟨A', c', by rw [Int.toNat_of_nonneg hv0], h1, h3, h4⟩
      go_wp2_with fail
      refine T1.out.mono ?_; rintro e w2 ⟨A2, c2, rfl, H2⟩
      have HB2 : Hid (Below w.heap.size w w2) := HB0.out.trans (H2.out.2.2.mono HB0.out.size)
      have T2 : Hid (Calls Tryd.prog 11 #[.slice (some ⟨w.heap.size + 1, 0, none⟩) 3 4] w2 fun e w' => e = .returned (.tuple #[.int .i64 0, .slice none 0 0, .int .i64 3]) ∧ w2 = w') :=
        take_none ((v / 256 / 256 / 256 + 128).toNat :: (v / 256 / 256 % 256).toNat :: (v / 256 % 256).toNat :: []) (w.heap.size + 2) (some ⟨w.heap.size + 1, 0, none⟩) 4 w2 ⟨rfl, fun _ => ⟨w.heap.size + 1, 0, rfl, by omega, fun j u hu => by
          rw [H2.out.2.2.cell (p := ⟨w.heap.size + 1, 0 + j, none⟩) hsz1]
          refine HC1.out j u ?_
          simp only [bv, List.map_cons, List.map_nil, e0, e1, e2, e3] at hu
          have hj : j < 3 := by have := (List.getElem?_eq_some_iff.1 hu).1; simpa using this
          match j, hj, hu with
          | 0, _, hu => simpa using hu
          | 1, _, hu => simpa using hu
          | 2, _, hu => simpa using hu⟩⟩ (fun c hc => by
          simp only [List.mem_cons, List.not_mem_nil, or_false] at hc
          rcases hc with rfl | rfl | rfl <;> omega) (by simp only [List.length_cons, List.length_nil]; omega) (by simp only [List.length_cons, List.length_nil]; omega) (nodec_4 v hv0 hv1)
      clear T1
      go_wp2_with fail
      refine T2.out.mono ?_; rintro e w' ⟨rfl, rfl⟩
      clear T2
      go_wp2_with fail
      refine (known_any HL.out HB2.out).mono ?_; rintro e w3 ⟨rfl, hb3⟩
      have HB3 : Hid (Below w.heap.size w w3) := HB2.out.trans (hb3.mono HB2.out.size)
      have k1 := conv_run (P := Tryd.prog) w3 22 9 5 Tryd.underlying22 Tryd.underlying5 Tryd.underlying9 w2.heap.size A2 bs.length c2 bs (H2.out.2.1.below hb3 (Nat.le_refl _))
      have k2 := conv_run (P := Tryd.prog) w3 22 9 5 Tryd.underlying22 Tryd.underlying5 Tryd.underlying9 w.heap.size A bs.length cap bs (HB.out.rd.below HB3.out (Nat.le_refl _))
      clear hb3
      go_wp2
      go_ret
      exact ⟨by simp, HB3.out⟩

  · · go_enter Tryd.func7, Tryd.ntmps7
      go_wp2_with fail
      refine (PF.out _).mono ?_; rintro e w' ⟨rfl, rfl⟩
      go_wp2_with fail
      refine (HN.out _).mono ?_; rintro e w' ⟨rfl, rfl⟩
      go_wp2_with fail
      refine (size_one x _ _ (cell_at _ _ _ _ rfl) wx.out).mono ?_; rintro e w' ⟨rfl, rfl⟩
      go_wp2_with fail
      refine (h2.out _).mono ?_; rintro e w' ⟨rfl, rfl⟩
      go_wp2_with fail
      refine wp_loop_rounds 5 ?_
      rw [rounds_succ]; go_wp2_with fail
      rw [rounds_succ]; go_wp2_with fail
      rw [rounds_succ]; go_wp2_with fail
      rw [rounds_succ]; go_wp2_with fail
      rw [rounds_succ]
      go_wp2_with (at_builtin; refine wpList_appf _ rfl _ _ 22 rfl w.heap.size 5 i0 (.int .u8 0) 1 Tryd.underlying22 HI.out.1 HI.out.2.1 HI.out.2.2.1 HI.out.2.2.2 rfl (w.heap.size + 1) 4 [.int .u8 (v / 256 / 256 / 256 + 128), .int .u8 (v / 256 / 256 % 256), .int .u8 (v / 256 % 256), .int .u8 (v % 256)] rfl ?c0 w.heap.size A bs.length cap (bv bs) rfl ?c3 ?c4 ?c5 ?c6 ?_)
      case c0 => exact own_at (w.alloc (.cells #[Value.int .i64 x] 3)) #[.int .u8 (v / 256 / 256 / 256 + 128), .int .u8 (v / 256 / 256 % 256), .int .u8 (v / 256 % 256), .int .u8 (v % 256)] 4 (w.heap.size + 1) w.heap.size (World.size_alloc _ _).symm rfl (by unfold maxLen; decide) (Nat.le_trans (Nat.le_succ _) (Nat.le_of_eq (World.size_alloc _ _).symm))
      case c3 => exact HB.out.rd.below (((Below.refl _ _).alloc (Nat.le_refl _) _).alloc (by simp) _) (Nat.le_refl _)
      case c4 => have := HB.out.reach; unfold maxLen; omega
      case c5 => have := HB.out.reach; omega
      case c6 => simp only [World.size_alloc]; omega
      intro v1 w1 hown1 hb1
      have HB0 : Hid (Below w.heap.size w w1) := (((Below.refl _ _).alloc (Nat.le_refl _) _).alloc (by simp) _).trans (hb1.mono (by omega))
      have HC1 : Hid (∀ j u, ([.int .u8 (v / 256 / 256 / 256 + 128), .int .u8 (v / 256 / 256 % 256), .int .u8 (v / 256 % 256), .int .u8 (v % 256)] : List Value)[j]? = some u → w1.cell? ⟨w.heap.size + 1, 0 + j, none⟩ = some u) := fun j u hu => by
        rw [hb1.cell (p := ⟨w.heap.size + 1, 0 + j, none⟩) (show w.heap.size + 1 < w.heap.size + 1 + 1 by omega)]
        have h := (own_at (w.alloc (.cells #[Value.int .i64 x] 3)) #[.int .u8 (v / 256 / 256 / 256 + 128), .int .u8 (v / 256 / 256 % 256), .int .u8 (v / 256 % 256), .int .u8 (v % 256)] 4 (w.heap.size + 1) w.heap.size (World.size_alloc _ _).symm rfl (by unfold maxLen; decide) (Nat.le_trans (Nat.le_succ _) (Nat.le_of_eq (World.size_alloc _ _).symm))).cells (g := w.heap.size + 1) rfl j u hu
        rw [Addr.add_lit] at h
        exact h
      have hsz1 : w.heap.size + 1 < w1.heap.size := by have := hb1.size; simp only [World.size_alloc] at this; omega
      clear hb1
      obtain ⟨A1, c1, rfl, hc1, _, _, hr1⟩ := own_form hown1
      have HR1 := Lib.hid hr1
      clear hr1 hown1
      have e0 : (((v / 256 / 256 / 256 + 128).toNat : Nat) : Int) = v / 256 / 256 / 256 + 128 := Int.toNat_of_nonneg nn0.out
      have e1 : (((v / 256 / 256 % 256).toNat : Nat) : Int) = v / 256 / 256 % 256 := Int.toNat_of_nonneg nn1.out
      have e2 : (((v / 256 % 256).toNat : Nat) : Int) = v / 256 % 256 := Int.toNat_of_nonneg nn2.out
      have e3 : (((v % 256).toNat : Nat) : Int) = v % 256 := Int.toNat_of_nonneg nn3.out
      have ebv : (Value.int .u8 (v / 256 / 256 / 256 + 128) :: Value.int .u8 (v / 256 / 256 % 256) :: Value.int .u8 (v / 256 % 256) :: Value.int .u8 (v % 256) :: bv bs : List Value) = bv ((v / 256 / 256 / 256 + 128).toNat :: (v / 256 / 256 % 256).toNat :: (v / 256 % 256).toNat :: (v % 256).toNat :: bs) := by
        simp only [bv, List.map_cons, e0, e1, e2, e3]
      have T1 : Hid (Calls Tryd.prog 11 #[.slice A1 (4 + bs.length) c1] w1 fun e w' => ∃ A' c', e = .returned (.tuple #[.int .i64 v, .slice A' bs.length c', .int .i64 0]) ∧ Hid (bs.length ≤ c' ∧ Rd w' w'.heap.size A' bs.length (bv bs) ∧ Below w1.heap.size w1 w')) := by
        have hr := HR1.out
        rw [ebv] at hr
        have el : ((v / 256 / 256 / 256 + 128).toNat :: (v / 256 / 256 % 256).toNat :: (v / 256 % 256).toNat :: (v % 256).toNat :: bs).length = 4 + bs.length := by simp only [List.length_cons]; omega
        have h := take_yes ((v / 256 / 256 / 256 + 128).toNat :: (v / 256 / 256 % 256).toNat :: (v / 256 % 256).toNat :: (v % 256).toNat :: bs) w1.heap.size A1 c1 w1 (by rw [el]; exact hr) (Nat.le_refl _) (fun c hc => by
          simp only [List.mem_cons] at hc
          rcases hc with rfl | rfl | rfl | rfl | h
          · omega
          · omega
          · omega
          · omega
          · exact HB.out.lt c h) (by rw [el]; exact hc1) (by have := HB.out.reach; rw [el]; omega) v.toNat 4 (dec_4 v hv0 hv1 bs)
        rw [el] at h
        refine h.mono ?_
        rintro e w' ⟨A', c', rfl, hh⟩
        have h1 := hh.out.1
        have h3 := hh.out.2.2.1
        have h4 := hh.out.2.2.2
        rw [Nat.add_sub_cancel_left] at h1 h3 ⊢
        exact ⟨A', c', by rw [Int.toNat_of_nonneg hv0], h1, h3, h4⟩
      go_wp2_with fail
      refine T1.out.mono ?_; rintro e w2 ⟨A2, c2, rfl, H2⟩
      have HB2 : Hid (Below w.heap.size w w2) := HB0.out.trans (H2.out.2.2.mono HB0.out.size)
      have T2 : Hid (Calls Tryd.prog 11 #[.slice (some ⟨w.heap.size + 1, 0, none⟩) 3 4] w2 fun e w' => e = .returned (.tuple #[.int .i64 0, .slice none 0 0, .int .i64 3]) ∧ w2 = w') :=
        take_none ((v / 256 / 256 / 256 + 128).toNat :: (v / 256 / 256 % 256).toNat :: (v / 256 % 256).toNat :: []) (w.heap.size + 2) (some ⟨w.heap.size + 1, 0, none⟩) 4 w2 ⟨rfl, fun _ => ⟨w.heap.size + 1, 0, rfl, by omega, fun j u hu => by
          rw [H2.out.2.2.cell (p := ⟨w.heap.size + 1, 0 + j, none⟩) hsz1]
          refine HC1.out j u ?_
          simp only [bv, List.map_cons, List.map_nil, e0, e1, e2, e3] at hu
          have hj : j < 3 := by have := (List.getElem?_eq_some_iff.1 hu).1; simpa using this
          match j, hj, hu with
          | 0, _, hu => simpa using hu
          | 1, _, hu => simpa using hu
          | 2, _, hu => simpa using hu⟩⟩ (fun c hc => by
          simp only [List.mem_cons, List.not_mem_nil, or_false] at hc
          rcases hc with rfl | rfl | rfl <;> omega) (by simp only [List.length_cons, List.length_nil]; omega) (by simp only [List.length_cons, List.length_nil]; omega) (nodec_4 v hv0 hv1)
      clear T1
      go_wp2_with fail
      refine T2.out.mono ?_; rintro e w' ⟨rfl, rfl⟩
      clear T2
      go_wp2_with fail
      refine (known_any HL.out HB2.out).mono ?_; rintro e w3 ⟨rfl, hb3⟩
      have HB3 : Hid (Below w.heap.size w w3) := HB2.out.trans (hb3.mono HB2.out.size)
      have k1 := conv_run (P := Tryd.prog) w3 22 9 5 Tryd.underlying22 Tryd.underlying5 Tryd.underlying9 w2.heap.size A2 bs.length c2 bs (H2.out.2.1.below hb3 (Nat.le_refl _))
      have k2 := conv_run (P := Tryd.prog) w3 22 9 5 Tryd.underlying22 Tryd.underlying5 Tryd.underlying9 w.heap.size A bs.length cap bs (HB.out.rd.below HB3.out (Nat.le_refl _))
      clear hb3
      go_wp2
      go_ret
      exact ⟨by simp, HB3.out⟩


theorem dec_8 (v : Int) (h0 : 0 ≤ v) (h1 : v < 4611686018427387904) (bs : List Nat) : dec ((v / 256 / 256 / 256 / 256 / 256 / 256 / 256 + 192).toNat :: (v / 256 / 256 / 256 / 256 / 256 / 256 % 256).toNat :: (v / 256 / 256 / 256 / 256 / 256 % 256).toNat :: (v / 256 / 256 / 256 / 256 % 256).toNat :: (v / 256 / 256 / 256 % 256).toNat :: (v / 256 / 256 % 256).toNat :: (v / 256 % 256).toNat :: (v % 256).toNat :: bs) = some (v.toNat, 8) := by
  obtain ⟨n, rfl⟩ := Int.eq_ofNat_of_zero_le h0
  have b0 : n < 4611686018427387904 := by omega
  have b1 : n / 256 < 18014398509481984 := by omega
  have b2 : n / 256 / 256 < 70368744177664 := by omega
  have b3 : n / 256 / 256 / 256 < 274877906944 := by omega
  have b4 : n / 256 / 256 / 256 / 256 < 1073741824 := by omega
  have b5 : n / 256 / 256 / 256 / 256 / 256 < 4194304 := by omega
  have b6 : n / 256 / 256 / 256 / 256 / 256 / 256 < 16384 := by omega
  have b7 : n / 256 / 256 / 256 / 256 / 256 / 256 / 256 < 64 := by omega
  have c1 : (n : Int) / 256 = ((n / 256 : Nat) : Int) := by omega
  have c2 : (n : Int) / 256 / 256 = ((n / 256 / 256 : Nat) : Int) := by omega
  have c3 : (n : Int) / 256 / 256 / 256 = ((n / 256 / 256 / 256 : Nat) : Int) := by omega
  have c4 : (n : Int) / 256 / 256 / 256 / 256 = ((n / 256 / 256 / 256 / 256 : Nat) : Int) := by omega
  have c5 : (n : Int) / 256 / 256 / 256 / 256 / 256 = ((n / 256 / 256 / 256 / 256 / 256 : Nat) : Int) := by omega
  have c6 : (n : Int) / 256 / 256 / 256 / 256 / 256 / 256 = ((n / 256 / 256 / 256 / 256 / 256 / 256 : Nat) : Int) := by omega
  have c7 : (n : Int) / 256 / 256 / 256 / 256 / 256 / 256 / 256 = ((n / 256 / 256 / 256 / 256 / 256 / 256 / 256 : Nat) : Int) := by omega
  have f0 : ((n : Int) / 256 / 256 / 256 / 256 / 256 / 256 / 256 + 192).toNat = n / 256 / 256 / 256 / 256 / 256 / 256 / 256 + 192 := by rw [c7]; omega
  have f1 : ((n : Int) / 256 / 256 / 256 / 256 / 256 / 256 % 256).toNat = n / 256 / 256 / 256 / 256 / 256 / 256 % 256 := by rw [c6]; omega
  have f2 : ((n : Int) / 256 / 256 / 256 / 256 / 256 % 256).toNat = n / 256 / 256 / 256 / 256 / 256 % 256 := by rw [c5]; omega
  have f3 : ((n : Int) / 256 / 256 / 256 / 256 % 256).toNat = n / 256 / 256 / 256 / 256 % 256 := by rw [c4]; omega
  have f4 : ((n : Int) / 256 / 256 / 256 % 256).toNat = n / 256 / 256 / 256 % 256 := by rw [c3]; omega
  have f5 : ((n : Int) / 256 / 256 % 256).toNat = n / 256 / 256 % 256 := by rw [c2]; omega
  have f6 : ((n : Int) / 256 % 256).toNat = n / 256 % 256 := by rw [c1]; omega
  have f7 : ((n : Int) % 256).toNat = n % 256 := by omega
  have hl : lenF (n / 256 / 256 / 256 / 256 / 256 / 256 / 256 + 192) = 8 := by unfold lenF; (repeat' split) <;> omega
  have hm : (n / 256 / 256 / 256 / 256 / 256 / 256 / 256 + 192) % 64 = n / 256 / 256 / 256 / 256 / 256 / 256 / 256 := by omega
  have g6 : n / 256 / 256 / 256 / 256 / 256 / 256 / 256 * 256 + n / 256 / 256 / 256 / 256 / 256 / 256 % 256 = n / 256 / 256 / 256 / 256 / 256 / 256 := Nat.div_add_mod' _ _
  have g5 : n / 256 / 256 / 256 / 256 / 256 / 256 * 256 + n / 256 / 256 / 256 / 256 / 256 % 256 = n / 256 / 256 / 256 / 256 / 256 := Nat.div_add_mod' _ _
  have g4 : n / 256 / 256 / 256 / 256 / 256 * 256 + n / 256 / 256 / 256 / 256 % 256 = n / 256 / 256 / 256 / 256 := Nat.div_add_mod' _ _
  have g3 : n / 256 / 256 / 256 / 256 * 256 + n / 256 / 256 / 256 % 256 = n / 256 / 256 / 256 := Nat.div_add_mod' _ _
  have g2 : n / 256 / 256 / 256 * 256 + n / 256 / 256 % 256 = n / 256 / 256 := Nat.div_add_mod' _ _
  have g1 : n / 256 / 256 * 256 + n / 256 % 256 = n / 256 := Nat.div_add_mod' _ _
  have g0 : n / 256 * 256 + n % 256 = n := Nat.div_add_mod' _ _
  rw [f0, f1, f2, f3, f4, f5, f6, f7]
  simp only [dec, hl, List.length_cons]
  rw [if_neg (by omega)]
  simp only [Option.some.injEq, Prod.mk.injEq, and_true, valF, Nat.reduceSub, List.take_succ_cons, List.take_zero, List.foldl_cons, List.foldl_nil, Int.toNat_natCast, hm, g6, g5, g4, g3, g2, g1, g0]

theorem nodec_8 (v : Int) (h0 : 0 ≤ v) (h1 : v < 4611686018427387904) : dec ((v / 256 / 256 / 256 / 256 / 256 / 256 / 256 + 192).toNat :: (v / 256 / 256 / 256 / 256 / 256 / 256 % 256).toNat :: (v / 256 / 256 / 256 / 256 / 256 % 256).toNat :: (v / 256 / 256 / 256 / 256 % 256).toNat :: (v / 256 / 256 / 256 % 256).toNat :: (v / 256 / 256 % 256).toNat :: (v / 256 % 256).toNat :: []) = none := by
  have hl : lenF (v / 256 / 256 / 256 / 256 / 256 / 256 / 256 + 192).toNat = 8 := by unfold lenF; (repeat' split) <;> omega
  simp [dec, hl]

set_option maxHeartbeats 4000000 in
theorem walk_8 (n form x v : Int) (bs : List Nat) (A : Option Addr) (cap : Nat) (w : World) (hL : laidMetH Tryd.prog laids w) (wx : Hid (wid x ≠ 0))
    (PF : Hid (∀ W, Calls Tryd.prog 19 #[.int .i64 form, .int .i64 4] W fun e w' => e = .returned (.int .i64 3) ∧ W = w'))
    (HN : Hid (∀ W, Calls Tryd.prog 18 #[.int .i64 n] W fun e w' => e = .returned (.int .i64 x) ∧ W = w'))
    (hc : ((wid x : Int) ≤ 8 ∧ Hid (x = v)) ∨ ((8 : Int) < wid x ∧ Hid (∀ W, Calls Tryd.prog 19 #[.int .i64 x, .int .i64 64] W fun e w' => e = .returned (.int .i64 v) ∧ W = w')))
    (hv0 : 0 ≤ v) (hv1 : v < 4611686018427387904) (hb : IsBytes w A cap bs) :
    Calls Tryd.prog 7 #[.int .i64 n, .int .i64 form, .slice A bs.length cap] w fun e w' => e = .returned (.bool true) ∧ Below w.heap.size w w' := by
  have hmk : ∀ w : World, (Instr.makeSlice 22 (.int .i64 8) (.int .i64 8)).run Tryd.prog w = .ok (.slice (some ⟨w.heap.size, 0, none⟩) 8 8) (w.alloc (.cells #[.int .u8 0, .int .u8 0, .int .u8 0, .int .u8 0, .int .u8 0, .int .u8 0, .int .u8 0, .int .u8 0] 5)) := fun _ => by kernel_rfl
  have HT := Lib.hid (tabs_of hL)
  have HL := Lib.hid hL
  have HB := Lib.hid hb
  have hnn : 0 ≤ v / 256 / 256 / 256 / 256 / 256 / 256 / 256 + 192 := by omega
  have nn0 := Lib.hid (show 0 ≤ v / 256 / 256 / 256 / 256 / 256 / 256 / 256 + 192 by omega)
  have nn1 := Lib.hid (show 0 ≤ v / 256 / 256 / 256 / 256 / 256 / 256 % 256 by omega)
  have nn2 := Lib.hid (show 0 ≤ v / 256 / 256 / 256 / 256 / 256 % 256 by omega)
  have nn3 := Lib.hid (show 0 ≤ v / 256 / 256 / 256 / 256 % 256 by omega)
  have nn4 := Lib.hid (show 0 ≤ v / 256 / 256 / 256 % 256 by omega)
  have nn5 := Lib.hid (show 0 ≤ v / 256 / 256 % 256 by omega)
  have nn6 := Lib.hid (show 0 ≤ v / 256 % 256 by omega)
  have nn7 := Lib.hid (show 0 ≤ v % 256 by omega)
  obtain ⟨i0, hi, hz0, hz1, hz2⟩ := info_parts info5
  have HI := Lib.hid (And.intro hi (And.intro hz0 (And.intro hz1 hz2)))
  clear hi hz0 hz1 hz2 hL hb HT
  rcases hc with ⟨h1, h2⟩ | ⟨h1, h2⟩
  · have e : v = x := h2.out.symm
    clear h2
    subst e
    · go_enter Tryd.func7, Tryd.ntmps7
      go_wp2_with fail
      refine (PF.out _).mono ?_; rintro e w' ⟨rfl, rfl⟩
      go_wp2_with fail
      refine (HN.out _).mono ?_; rintro e w' ⟨rfl, rfl⟩
      go_wp2_with fail
      refine (size_one v _ _ (cell_at _ _ _ _ rfl) wx.out).mono ?_; rintro e w' ⟨rfl, rfl⟩
      go_wp2_with fail
      refine wp_loop_rounds 9 ?_
      rw [rounds_succ]; go_wp2_with fail
      rw [rounds_succ]; go_wp2_with fail
      rw [rounds_succ]; go_wp2_with fail
      rw [rounds_succ]; go_wp2_with fail
      rw [rounds_succ]; go_wp2_with fail
      rw [rounds_succ]; go_wp2_with fail
      rw [rounds_succ]; go_wp2_with fail
      rw [rounds_succ]; go_wp2_with fail
      rw [rounds_succ]
      go_wp2_with (at_builtin; refine wpList_appf _ rfl _ _ 22 rfl w.heap.size 5 i0 (.int .u8 0) 1 Tryd.underlying22 HI.out.1 HI.out.2.1 HI.out.2.2.1 HI.out.2.2.2 rfl (w.heap.size + 1) 8 [.int .u8 (v / 256 / 256 / 256 / 256 / 256 / 256 / 256 + 192), .int .u8 (v / 256 / 256 / 256 / 256 / 256 / 256 % 256), .int .u8 (v / 256 / 256 / 256 / 256 / 256 % 256), .int .u8 (v / 256 / 256 / 256 / 256 % 256), .int .u8 (v / 256 / 256 / 256 % 256), .int .u8 (v / 256 / 256 % 256), .int .u8 (v / 256 % 256), .int .u8 (v % 256)] rfl ?c0 w.heap.size A bs.length cap (bv bs) rfl ?c3 ?c4 ?c5 ?c6 ?_)
      case c0 => exact own_at (w.alloc (.cells #[Value.int .i64 v] 3)) #[.int .u8 (v / 256 / 256 / 256 / 256 / 256 / 256 / 256 + 192), .int .u8 (v / 256 / 256 / 256 / 256 / 256 / 256 % 256), .int .u8 (v / 256 / 256 / 256 / 256 / 256 % 256), .int .u8 (v / 256 / 256 / 256 / 256 % 256), .int .u8 (v / 256 / 256 / 256 % 256), .int .u8 (v / 256 / 256 % 256), .int .u8 (v / 256 % 256), .int .u8 (v % 256)] 8 (w.heap.size + 1) w.heap.size (World.size_alloc _ _).symm rfl (by unfold maxLen; decide) (Nat.le_trans (Nat.le_succ _) (Nat.le_of_eq (World.size_alloc _ _).symm))
      case c3 => exact HB.out.rd.below (((Below.refl _ _).alloc (Nat.le_refl _) _).alloc (by simp) _) (Nat.le_refl _)
      case c4 => have := HB.out.reach; unfold maxLen; omega
      case c5 => have := HB.out.reach; omega
      case c6 => simp only [World.size_alloc]; omega
      intro v1 w1 hown1 hb1
      have HB0 : Hid (Below w.heap.size w w1) := (((Below.refl _ _).alloc (Nat.le_refl _) _).alloc (by simp) _).trans (hb1.mono (by omega))
      have HC1 : Hid (∀ j u, ([.int .u8 (v / 256 / 256 / 256 / 256 / 256 / 256 / 256 + 192), .int .u8 (v / 256 / 256 / 256 / 256 / 256 / 256 % 256), .int .u8 (v / 256 / 256 / 256 / 256 / 256 % 256), .int .u8 (v / 256 / 256 / 256 / 256 % 256), .int .u8 (v / 256 / 256 / 256 % 256), .int .u8 (v / 256 / 256 % 256), .int .u8 (v / 256 % 256), .int .u8 (v % 256)] : List Value)[j]? = some u → w1.cell? ⟨w.heap.size + 1, 0 + j, none⟩ = some u) := fun j u hu => by
        rw [hb1.cell (p := ⟨w.heap.size + 1, 0 + j, none⟩) (show w.heap.size + 1 < w.heap.size + 1 + 1 by omega)]
        have h := (own_at (w.alloc (.cells #[Value.int .i64 v] 3)) #[.int .u8 (v / 256 / 256 / 256 / 256 / 256 / 256 / 256 + 192), .int .u8 (v / 256 / 256 / 256 / 256 / 256 / 256 % 256), .int .u8 (v / 256 / 256 / 256 / 256 / 256 % 256), .int .u8 (v / 256 / 256 / 256 / 256 % 256), .int .u8 (v / 256 / 256 / 256 % 256), .int .u8 (v / 256 / 256 % 256), .int .u8 (v / 256 % 256), .int .u8 (v % 256)] 8 (w.heap.size + 1) w.heap.size (World.size_alloc _ _).symm rfl (by unfold maxLen; decide) (Nat.le_trans (Nat.le_succ _) (Nat.le_of_eq (World.size_alloc _ _).symm))).cells (g := w.heap.size + 1) rfl j u hu
        rw [Addr.add_lit] at h
        exact h
      have hsz1 : w.heap.size + 1 < w1.heap.size := by have := hb1.size; simp only [World.size_alloc] at this; omega
      clear hb1
      obtain ⟨A1, c1, rfl, hc1, _, _, hr1⟩ := own_form hown1
      have HR1 := Lib.hid hr1
      clear hr1 hown1
      have e0 : (((v / 256 / 256 / 256 / 256 / 256 / 256 / 256 + 192).toNat : Nat) : Int) = v / 256 / 256 / 256 / 256 / 256 / 256 / 256 + 192 := Int.toNat_of_nonneg nn0.out
      have e1 : (((v / 256 / 256 / 256 / 256 / 256 / 256 % 256).toNat : Nat) : Int) = v / 256 / 256 / 256 / 256 / 256 / 256 % 256 := Int.toNat_of_nonneg nn1.out
      have e2 : (((v / 256 / 256 / 256 / 256 / 256 % 256).toNat : Nat) : Int) = v / 256 / 256 / 256 / 256 / 256 % 256 := Int.toNat_of_nonneg nn2.out
      have e3 : (((v / 256 / 256 / 256 / 256 % 256).toNat : Nat) : Int) = v / 256 / 256 / 256 / 256 % 256 := Int.toNat_of_nonneg nn3.out
      have e4 : (((v / 256 / 256 / 256 % 256).toNat : Nat) : Int) = v / 256 / 256 / 256 % 256 := Int.toNat_of_nonneg nn4.out
      have e5 : (((v / 256 / 256 % 256).toNat : Nat) : Int) = v / 256 / 256 % 256 := Int.toNat_of_nonneg nn5.out
      have e6 : (((v / 256 % 256).toNat : Nat) : Int) = v / 256 % 256 := Int.toNat_of_nonneg nn6.out
      have e7 : (((v % 256).toNat : Nat) : Int) = v % 256 := Int.toNat_of_nonneg nn7.out
      have ebv : (Value.int .u8 (v / 256 / 256 / 256 / 256 / 256 / 256 / 256 + 192) :: Value.int .u8 (v / 256 / 256 / 256 / 256 / 256 / 256 % 256) :: Value.int .u8 (v / 256 / 256 / 256 / 256 / 256 % 256) :: Value.int .u8 (v / 256 / 256 / 256 / 256 % 256) :: Value.int .u8 (v / 256 / 256 / 256 % 256) :: Value.int .u8 (v / 256 / 256 % 256) :: Value.int .u8 (v / 256 % 256) :: Value.int .u8 (v % 256) :: bv bs : List Value) = bv ((v / 256 / 256 / 256 / 256 / 256 / 256 / 256 + 192).toNat :: (v / 256 / 256 / 256 / 256 / 256 / 256 % 256).toNat :: (v / 256 / 256 / 256 / 256 / 256 % 256).toNat :: (v / 256 / 256 / 256 / 256 % 256).toNat :: (v / 256 / 256 / 256 % 256).toNat :: (v / 256 / 256 % 256).toNat :: (v / 256 % 256).toNat :: (v % 256).toNat :: bs) := by
        simp only [bv, List.map_cons, e0, e1, e2, e3, e4, e5, e6, e7]
      have T1 : Hid (Calls Tryd.prog 11 #[.slice A1 (8 + bs.length) c1] w1 fun e w' => ∃ A' c', e = .returned (.tuple #[.int .i64 v, .slice A' bs.length c', .int .i64 0]) ∧ Hid (bs.length ≤ c' ∧ Rd w' w'.heap.size A' bs.length (bv bs) ∧ Below w1.heap.size w1 w')) := by
        have hr := HR1.out
        rw [ebv] at hr
        have el : ((v / 256 / 256 / 256 / 256 / 256 / 256 / 256 + 192).toNat :: (v / 256 / 256 / 256 / 256 / 256 / 256 % 256).toNat :: (v / 256 / 256 / 256 / 256 / 256 % 256).toNat :: (v / 256 / 256 / 256 / 256 % 256).toNat :: (v / 256 / 256 / 256 % 256).toNat :: (v / 256 / 256 % 256).toNat :: (v / 256 % 256).toNat :: (v % 256).toNat :: bs).length = 8 + bs.length := by simp only [List.length_cons]; omega
        have h := take_yes ((v / 256 / 256 / 256 / 256 / 256 / 256 / 256 + 192).toNat :: (v / 256 / 256 / 256 / 256 / 256 / 256 % 256).toNat :: (v / 256 / 256 / 256 / 256 / 256 % 256).toNat :: (v / 256 / 256 / 256 / 256 % 256).toNat :: (v / 256 / 256 / 256 % 256).toNat :: (v / 256 / 256 % 256).toNat :: (v / 256 % 256).toNat :: (v % 256).toNat :: bs) w1.heap.size A1 c1 w1 (by rw [el]; exact hr) (Nat.le_refl _) (fun c hc => by
          simp only [List.mem_cons] at hc
          rcases hc with rfl | rfl | rfl | rfl | rfl | rfl | rfl | rfl | h
          · omega
          · omega
          · omega
          · omega
          · omega
          · omega
          · omega
          · omega
          · exact HB.out.lt c h) (by rw [el]; exact hc1) (by have := HB.out.reach; rw [el]; omega) v.toNat 8 (dec_8 v hv0 hv1 bs)
        rw [el] at h
        refine h.mono ?_
        rintro e w' ⟨A', c', rfl, hh⟩
        have h1 := hh.out.1
        have h3 := hh.out.2.2.1
        have h4 := hh.out.2.2.2
        rw [Nat.add_sub_cancel_left] at h1 h3 ⊢
        exact ⟨A', c', by rw [Int.toNat_of_nonneg hv0], h1, h3, h4⟩
      go_wp2_with fail
      refine T1.out.mono ?_; rintro e w2 ⟨A2, c2, rfl, H2⟩
      have HB2 : Hid (Below w.heap.size w w2) := HB0.out.trans (H2.out.2.2.mono HB0.out.size)
      have T2 : Hid (Calls Tryd.prog 11 #[.slice (some ⟨w.heap.size + 1, 0, none⟩) 7 8] w2 fun e w' => e = .returned (.tuple #[.int .i64 0, .slice none 0 0, .int .i64 3]) ∧ w2 = w') :=
        take_none ((v / 256 / 256 / 256 / 256 / 256 / 256 / 256 + 192).toNat :: (v / 256 / 256 / 256 / 256 / 256 / 256 % 256).toNat :: (v / 256 / 256 / 256 / 256 / 256 % 256).toNat :: (v / 256 / 256 / 256 / 256 % 256).toNat :: (v / 256 / 256 / 256 % 256).toNat :: (v / 256 / 256 % 256).toNat :: (v / 256 % 256).toNat :: []) (w.heap.size + 2) (some ⟨w.heap.size + 1, 0, none⟩) 8 w2 ⟨rfl, fun _ => ⟨w.heap.size + 1, 0, rfl, by omega, fun j u hu => by
          rw [H2.out.2.2.cell (p := ⟨w.heap.size + 1, 0 + j, none⟩) hsz1]
          refine HC1.out j u ?_
          simp only [bv, List.map_cons, List.map_nil, e0, e1, e2, e3, e4, e5, e6, e7] at hu
          have hj : j < 7 := by have := (List.getElem?_eq_some_iff.1 hu).1; simpa using this
          match j, hj, hu with
          | 0, _, hu => simpa using hu
          | 1, _, hu => simpa using hu
          | 2, _, hu => simpa using hu
          | 3, _, hu => simpa using hu
          | 4, _, hu => simpa using hu
          | 5, _, hu => simpa using hu
          | 6, _, hu => simpa using hu⟩⟩ (fun c hc => by
          simp only [List.mem_cons, List.not_mem_nil, or_false] at hc
          rcases hc with rfl | rfl | rfl | rfl | rfl | rfl | rfl <;> omega) (by simp only [List.length_cons, List.length_nil]; omega) (by simp only [List.length_cons, List.length_nil]; omega) (nodec_8 v hv0 hv1)
      clear T1
      go_wp2_with fail
      refine T2.out.mono ?_; rintro e w' ⟨rfl, rfl⟩
      clear T2
      go_wp2_with fail
      refine (known_any HL.out HB2.out).mono ?_; rintro e w3 ⟨rfl, hb3⟩
      have HB3 : Hid (Below w.heap.size w w3) := HB2.out.trans (hb3.mono HB2.out.size)
      have k1 := conv_run (P := Tryd.prog) w3 22 9 5 Tryd.underlying22 Tryd.underlying5 Tryd.underlying9 w2.heap.size A2 bs.length c2 bs (H2.out.2.1.below hb3 (Nat.le_refl _))
      have k2 := conv_run (P := Tryd.prog) w3 22 9 5 Tryd.underlying22 Tryd.underlying5 Tryd.underlying9 w.heap.size A bs.length cap bs (HB.out.rd.below HB3.out (Nat.le_refl _))
      clear hb3
      go_wp2
      go_ret
      exact ⟨by simp, HB3.out⟩

  · · go_enter Tryd.func7, Tryd.ntmps7
      go_wp2_with fail
      refine (PF.out _).mono ?_; rintro e w' ⟨rfl, rfl⟩
      go_wp2_with fail
      refine (HN.out _).mono ?_; rintro e w' ⟨rfl, rfl⟩
      go_wp2_with fail
      refine (size_one x _ _ (cell_at _ _ _ _ rfl) wx.out).mono ?_; rintro e w' ⟨rfl, rfl⟩
      go_wp2_with fail
      refine (h2.out _).mono ?_; rintro e w' ⟨rfl, rfl⟩
      go_wp2_with fail
      refine wp_loop_rounds 9 ?_
      rw [rounds_succ]; go_wp2_with fail
      rw [rounds_succ]; go_wp2_with fail
      rw [rounds_succ]; go_wp2_with fail
      rw [rounds_succ]; go_wp2_with fail
      rw [rounds_succ]; go_wp2_with fail
      rw [rounds_succ]; go_wp2_with fail
      rw [rounds_succ]; go_wp2_with fail
      rw [rounds_succ]; go_wp2_with fail
      rw [rounds_succ]
      go_wp2_with (at_builtin; refine wpList_appf _ rfl _ _ 22 rfl w.heap.size 5 i0 (.int .u8 0) 1 Tryd.underlying22 HI.out.1 HI.out.2.1 HI.out.2.2.1 HI.out.2.2.2 rfl (w.heap.size + 1) 8 [.int .u8 (v / 256 / 256 / 256 / 256 / 256 / 256 / 256 + 192), .int .u8 (v / 256 / 256 / 256 / 256 / 256 / 256 % 256), .int .u8 (v / 256 / 256 / 256 / 256 / 256 % 256), .int .u8 (v / 256 / 256 / 256 / 256 % 256), .int .u8 (v / 256 / 256 / 256 % 256), .int .u8 (v / 256 / 256 % 256), .int .u8 (v / 256 % 256), .int .u8 (v % 256)] rfl ?c0 w.heap.size A bs.length cap (bv bs) rfl ?c3 ?c4 ?c5 ?c6 ?_)
      case c0 => exact own_at (w.alloc (.cells #[Value.int .i64 x] 3)) #[.int .u8 (v / 256 / 256 / 256 / 256 / 256 / 256 / 256 + 192), .int .u8 (v / 256 / 256 / 256 / 256 / 256 / 256 % 256), .int .u8 (v / 256 / 256 / 256 / 256 / 256 % 256), .int .u8 (v / 256 / 256 / 256 / 256 % 256), .int .u8 (v / 256 / 256 / 256 % 256), .int .u8 (v / 256 / 256 % 256), .int .u8 (v / 256 % 256), .int .u8 (v % 256)] 8 (w.heap.size + 1) w.heap.size (World.size_alloc _ _).symm rfl (by unfold maxLen; decide) (Nat.le_trans (Nat.le_succ _) (Nat.le_of_eq (World.size_alloc _ _).symm))
      case c3 => exact HB.out.rd.below (((Below.refl _ _).alloc (Nat.le_refl _) _).alloc (by simp) _) (Nat.le_refl _)
      case c4 => have := HB.out.reach; unfold maxLen; omega
      case c5 => have := HB.out.reach; omega
      case c6 => simp only [World.size_alloc]; omega
      intro v1 w1 hown1 hb1
      have HB0 : Hid (Below w.heap.size w w1) := (((Below.refl _ _).alloc (Nat.le_refl _) _).alloc (by simp) _).trans (hb1.mono (by omega))
      have HC1 : Hid (∀ j u, ([.int .u8 (v / 256 / 256 / 256 / 256 / 256 / 256 / 256 + 192), .int .u8 (v / 256 / 256 / 256 / 256 / 256 / 256 % 256), .int .u8 (v / 256 / 256 / 256 / 256 / 256 % 256), .int .u8 (v / 256 / 256 / 256 / 256 % 256), .int .u8 (v / 256 / 256 / 256 % 256), .int .u8 (v / 256 / 256 % 256), .int .u8 (v / 256 % 256), .int .u8 (v % 256)] : List Value)[j]? = some u → w1.cell? ⟨w.heap.size + 1, 0 + j, none⟩ = some u) := fun j u hu => by
        rw [hb1.cell (p := ⟨w.heap.size + 1, 0 + j, none⟩) (show w.heap.size + 1 < w.heap.size + 1 + 1 by omega)]
        have h := (own_at (w.alloc (.cells #[Value.int .i64 x] 3)) #[.int .u8 (v / 256 / 256 / 256 / 256 / 256 / 256 / 256 + 192), .int .u8 (v / 256 / 256 / 256 / 256 / 256 / 256 % 256), .int .u8 (v / 256 / 256 / 256 / 256 / 256 % 256), .int .u8 (v / 256 / 256 / 256 / 256 % 256), .int .u8 (v / 256 / 256 / 256 % 256), .int .u8 (v / 256 / 256 % 256), .int .u8 (v / 256 % 256), .int .u8 (v % 256)] 8 (w.heap.size + 1) w.heap.size (World.size_alloc _ _).symm rfl (by unfold maxLen; decide) (Nat.le_trans (Nat.le_succ _) (Nat.le_of_eq (World.size_alloc _ _).symm))).cells (g := w.heap.size + 1) rfl j u hu
        rw [Addr.add_lit] at h
        exact h
      have hsz1 : w.heap.size + 1 < w1.heap.size := by have := hb1.size; simp only [World.size_alloc] at this; omega
      clear hb1
      obtain ⟨A1, c1, rfl, hc1, _, _, hr1⟩ := own_form hown1
      have HR1 := Lib.hid hr1
      clear hr1 hown1
      have e0 : (((v / 256 / 256 / 256 / 256 / 256 / 256 / 256 + 192).toNat : Nat) : Int) = v / 256 / 256 / 256 / 256 / 256 / 256 / 256 + 192 := Int.toNat_of_nonneg nn0.out
      have e1 : (((v / 256 / 256 / 256 / 256 / 256 / 256 % 256).toNat : Nat) : Int) = v / 256 / 256 / 256 / 256 / 256 / 256 % 256 := Int.toNat_of_nonneg nn1.out
      have e2 : (((v / 256 / 256 / 256 / 256 / 256 % 256).toNat : Nat) : Int) = v / 256 / 256 / 256 / 256 / 256 % 256 := Int.toNat_of_nonneg nn2.out
      have e3 : (((v / 256 / 256 / 256 / 256 % 256).toNat : Nat) : Int) = v / 256 / 256 / 256 / 256 % 256 := Int.toNat_of_nonneg nn3.out
      have e4 : (((v / 256 / 256 / 256 % 256).toNat : Nat) : Int) = v / 256 / 256 / 256 % 256 := Int.toNat_of_nonneg nn4.out
      have e5 : (((v / 256 / 256 % 256).toNat : Nat) : Int) = v / 256 / 256 % 256 := Int.toNat_of_nonneg nn5.out
      have e6 : (((v / 256 % 256).toNat : Nat) : Int) = v / 256 % 256 := Int.toNat_of_nonneg nn6.out
      have e7 : (((v % 256).toNat : Nat) : Int) = v % 256 := Int.toNat_of_nonneg nn7.out
      have ebv : (Value.int .u8 (v / 256 / 256 / 256 / 256 / 256 / 256 / 256 + 192) :: Value.int .u8 (v / 256 / 256 / 256 / 256 / 256 / 256 % 256) :: Value.int .u8 (v / 256 / 256 / 256 / 256 / 256 % 256) :: Value.int .u8 (v / 256 / 256 / 256 / 256 % 256) :: Value.int .u8 (v / 256 / 256 / 256 % 256) :: Value.int .u8 (v / 256 / 256 % 256) :: Value.int .u8 (v / 256 % 256) :: Value.int .u8 (v % 256) :: bv bs : List Value) = bv ((v / 256 / 256 / 256 / 256 / 256 / 256 / 256 + 192).toNat :: (v / 256 / 256 / 256 / 256 / 256 / 256 % 256).toNat :: (v / 256 / 256 / 256 / 256 / 256 % 256).toNat :: (v / 256 / 256 / 256 / 256 % 256).toNat :: (v / 256 / 256 / 256 % 256).toNat :: (v / 256 / 256 % 256).toNat :: (v / 256 % 256).toNat :: (v % 256).toNat :: bs) := by
        simp only [bv, List.map_cons, e0, e1, e2, e3, e4, e5, e6, e7]
      have T1 : Hid (Calls Tryd.prog 11 #[.slice A1 (8 + bs.length) c1] w1 fun e w' => ∃ A' c', e = .returned (.tuple #[.int .i64 v, .slice A' bs.length c', .int .i64 0]) ∧ Hid (bs.length ≤ c' ∧ Rd w' w'.heap.size A' bs.length (bv bs) ∧ Below w1.heap.size w1 w')) := by
        have hr := HR1.out
        rw [ebv] at hr
        have el : ((v / 256 / 256 / 256 / 256 / 256 / 256 / 256 + 192).toNat :: (v / 256 / 256 / 256 / 256 / 256 / 256 % 256).toNat :: (v / 256 / 256 / 256 / 256 / 256 % 256).toNat :: (v / 256 / 256 / 256 / 256 % 256).toNat :: (v / 256 / 256 / 256 % 256).toNat :: (v / 256 / 256 % 256).toNat :: (v / 256 % 256).toNat :: (v % 256).toNat :: bs).length = 8 + bs.length := by simp only [List.length_cons]; omega
        have h := take_yes ((v / 256 / 256 / 256 / 256 / 256 / 256 / 256 + 192).toNat :: (v / 256 / 256 / 256 / 256 / 256 / 256 % 256).toNat :: (v / 256 / 256 / 256 / 256 / 256 % 256).toNat :: (v / 256 / 256 / 256 / 256 % 256).toNat :: (v / 256 / 256 / 256 % 256).toNat :: (v / 256 / 256 % 256).toNat :: (v / 256 % 256).toNat :: (v % 256).toNat :: bs) w1.heap.size A1 c1 w1 (by rw [el]; exact hr) (Nat.le_refl _) (fun c hc => by
          simp only [List.mem_cons] at hc
          rcases hc with rfl | rfl | rfl | rfl | rfl | rfl | rfl | rfl | h
          · omega
          · omega
          · omega
          · omega
          · omega
          · omega
          · omega
          · omega
          · exact HB.out.lt c h) (by rw [el]; exact hc1) (by have := HB.out.reach; rw [el]; omega) v.toNat 8 (dec_8 v hv0 hv1 bs)
        rw [el] at h
        refine h.mono ?_
        rintro e w' ⟨A', c', rfl, hh⟩
        have h1 := hh.out.1
        have h3 := hh.out.2.2.1
        have h4 := hh.out.2.2.2
        rw [Nat.add_sub_cancel_left] at h1 h3 ⊢
        exact ⟨A', c', by rw [Int.toNat_of_nonneg hv0], h1, h3, h4⟩
      go_wp2_with fail
      refine T1.out.mono ?_; rintro e w2 ⟨A2, c2, rfl, H2⟩
      have HB2 : Hid (Below w.heap.size w w2) := HB0.out.trans (H2.out.2.2.mono HB0.out.size)
      have T2 : Hid (Calls Tryd.prog 11 #[.slice (some ⟨w.heap.size + 1, 0, none⟩) 7 8] w2 fun e w' => e = .returned (.tuple #[.int .i64 0, .slice none 0 0, .int .i64 3]) ∧ w2 = w') :=
        take_none ((v / 256 / 256 / 256 / 256 / 256 / 256 / 256 + 192).toNat :: (v / 256 / 256 / 256 / 256 / 256 / 256 % 256).toNat :: (v / 256 / 256 / 256 / 256 / 256 % 256).toNat :: (v / 256 / 256 / 256 / 256 % 256).toNat :: (v / 256 / 256 / 256 % 256).toNat :: (v / 256 / 256 % 256).toNat :: (v / 256 % 256).toNat :: []) (w.heap.size + 2) (some ⟨w.heap.size + 1, 0, none⟩) 8 w2 ⟨rfl, fun _ => ⟨w.heap.size + 1, 0, rfl, by omega, fun j u hu => by
          rw [H2.out.2.2.cell (p := ⟨w.heap.size + 1, 0 + j, none⟩) hsz1]
          refine HC1.out j u ?_
          simp only [bv, List.map_cons, List.map_nil, e0, e1, e2, e3, e4, e5, e6, e7] at hu
          have hj : j < 7 := by have := (List.getElem?_eq_some_iff.1 hu).1; simpa using this
          match j, hj, hu with
          | 0, _, hu => simpa using hu
          | 1, _, hu => simpa using hu
          | 2, _, hu => simpa using hu
          | 3, _, hu => simpa using hu
          | 4, _, hu => simpa using hu
          | 5, _, hu => simpa using hu
          | 6, _, hu => simpa using hu⟩⟩ (fun c hc => by
          simp only [List.mem_cons, List.not_mem_nil, or_false] at hc
          rcases hc with rfl | rfl | rfl | rfl | rfl | rfl | rfl <;> omega) (by simp only [List.length_cons, List.length_nil]; omega) (by simp only [List.length_cons, List.length_nil]; omega) (nodec_8 v hv0 hv1)
      clear T1
      go_wp2_with fail
      refine T2.out.mono ?_; rintro e w' ⟨rfl, rfl⟩
      clear T2
      go_wp2_with fail
      refine (known_any HL.out HB2.out).mono ?_; rintro e w3 ⟨rfl, hb3⟩
      have HB3 : Hid (Below w.heap.size w w3) := HB2.out.trans (hb3.mono HB2.out.size)
      have k1 := conv_run (P := Tryd.prog) w3 22 9 5 Tryd.underlying22 Tryd.underlying5 Tryd.underlying9 w2.heap.size A2 bs.length c2 bs (H2.out.2.1.below hb3 (Nat.le_refl _))
      have k2 := conv_run (P := Tryd.prog) w3 22 9 5 Tryd.underlying22 Tryd.underlying5 Tryd.underlying9 w.heap.size A bs.length cap bs (HB.out.rd.below HB3.out (Nat.le_refl _))
      clear hb3
      go_wp2
      go_ret
      exact ⟨by simp, HB3.out⟩



theorem wid_lim (x : Int) (hx : wid x ≠ 0) (K : Nat) (lim : Int) (hk : (K = 1 ∧ lim = 64) ∨ (K = 2 ∧ lim = 16384) ∨ (K = 4 ∧ lim = 1073741824) ∨ (K = 8 ∧ lim = 4611686018427387904)) (h : (wid x : Int) ≤ K) : 0 ≤ x ∧ x < lim := by
  rcases wid_cases x hx with ⟨h1, h2, h3⟩ | ⟨h1, h2, h3⟩ | ⟨h1, h2, h3⟩ | ⟨h1, h2, h3⟩ <;> rcases hk with ⟨k1, k2⟩ | ⟨k1, k2⟩ | ⟨k1, k2⟩ | ⟨k1, k2⟩ <;> omega

theorem pre (x : Int) (hx : wid x ≠ 0) (K : Nat) (lim : Int) (hk : (K = 1 ∧ lim = 64) ∨ (K = 2 ∧ lim = 16384) ∨ (K = 4 ∧ lim = 1073741824) ∨ (K = 8 ∧ lim = 4611686018427387904)) :
    ∃ v, (((wid x : Int) ≤ (K : Int) ∧ Hid (x = v)) ∨ ((K : Int) < wid x ∧ Hid (∀ W, Calls Tryd.prog 19 #[.int .i64 x, .int .i64 64] W fun e w' => e = .returned (.int .i64 v) ∧ W = w'))) ∧ 0 ≤ v ∧ v < lim := by
  by_cases h : (wid x : Int) ≤ (K : Int)
  · have := wid_lim x hx K lim hk h
    exact ⟨x, .inl ⟨h, rfl⟩, this.1, this.2⟩
  · exact ⟨x % 64, .inr ⟨by omega, fun W => pick_any x 64 W (by decide) (by decide)⟩, by omega, by omega⟩

theorem walk (n form : Int) (A : Option Addr) (cap : Nat) (bs : List Nat) (w : World) (hL : laidMetH Tryd.prog laids w) (n1 : -9223372036854775808 ≤ n) (n2 : n ≤ 9223372036854775807) (_m1 : -9223372036854775808 ≤ form) (_m2 : form ≤ 9223372036854775807) (hb : IsBytes w A cap bs) :
    Calls Tryd.prog 7 #[.int .i64 n, .int .i64 form, .slice A bs.length cap] w fun e w' => e = .returned (.bool true) ∧ Below w.heap.size w w' := by
  have hx := wid_may n
  have HN := fun W => hmay_any n W n1 n2
  have PF := fun W => pick_any form 4 W (by decide) (by decide)
  have hf : form % 4 = 0 ∨ form % 4 = 1 ∨ form % 4 = 2 ∨ form % 4 = 3 := by omega
  rcases hf with h | h | h | h
  · obtain ⟨v, hc, h0, h1⟩ := pre (mayF n) hx 1 64 (.inl ⟨rfl, rfl⟩)
    exact walk_1 n form (mayF n) v bs A cap w hL hx (by rw [h] at PF; exact PF) HN hc h0 h1 hb
  · obtain ⟨v, hc, h0, h1⟩ := pre (mayF n) hx 2 16384 (.inr (.inl ⟨rfl, rfl⟩))
    exact walk_2 n form (mayF n) v bs A cap w hL hx (by rw [h] at PF; exact PF) HN hc h0 h1 hb
  · obtain ⟨v, hc, h0, h1⟩ := pre (mayF n) hx 4 1073741824 (.inr (.inr (.inl ⟨rfl, rfl⟩)))
    exact walk_4 n form (mayF n) v bs A cap w hL hx (by rw [h] at PF; exact PF) HN hc h0 h1 hb
  · obtain ⟨v, hc, h0, h1⟩ := pre (mayF n) hx 8 4611686018427387904 (.inr (.inr (.inr ⟨rfl, rfl⟩)))
    exact walk_8 n form (mayF n) v bs A cap w hL hx (by rw [h] at PF; exact PF) HN hc h0 h1 hb
end Go.Proofs.YtajjjepoiancmaaDoor.Long
