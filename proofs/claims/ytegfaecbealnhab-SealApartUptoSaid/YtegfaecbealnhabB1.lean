/- SealBack: the walk. Conditions: the arguments' rows. -/
import Derived.Test.YtegfaecbealnhabL7
import Derived.Test.YtegfaecbealnhabH0
import Derived.Deep.RegionHeld3
import Derived.Deep.DeepCutAuto
import Derived.IntWalk
namespace Go.Proofs.Ytegfaecbealnhab.BackLaw
open Go Go.RowKit
open PartsLaw (of_bytes)

/-- The conversion of these bytes to a string. -/
def Cv (W : World) (v : Value) (l : List Nat) : Prop := (convert 53 9 v).run Try.prog W = .ok (.string (strOf l)) W
theorem cv_of {W : World} {B : Nat} {v : Value} {l : List Nat} (h : IsPart W B v l) : Cv W v l := by
  obtain ⟨A, c, rfl, h1, _⟩ := h
  exact conv_run W _ _ 5 Try.underlying53 Try.underlying5 Try.underlying9 B A _ c l h1

theorem few_part (l : List Nat) (v : Value) (B : Nat) (N : Int) (w : World) (hN : N = (l.length : Int)) (h : IsPart w B v l) (hB : B ≤ w.heap.size) :
    Calls Try.prog 48 #[v, .int .i64 N] w fun e w' => ∃ v', e = .returned v' ∧ w'.ownsRow w.heap.size 5 1 v' l.length (bv l) ∧ Below w.heap.size w w' := by
  subst hN
  obtain ⟨A, c, rfl, h1, h2, h3, h4⟩ := h
  have := few_any l B A c l.length w h1 hB h2 h3
  rwa [List.take_length] at this

theorem own_at {w : World} {base e size n : Nat} {v : Value} {xs : List Value} (h : w.ownsRow base e size v n xs) (hn : 0 < n) (hs : 0 < size) : ∃ g c, v = .slice (some ⟨g, 0, none⟩) n c ∧ base ≤ g := by
  rcases h.2 with ⟨rfl, rfl⟩ | ⟨g, cap, cur, rfl, hb, _⟩
  · have := h.1
    simp at this
    rcases this with h | h <;> omega
  · exact ⟨g, cap, rfl, hb⟩

theorem open_false (key : Nat) (num : Int) (head sealed : List Nat) (vh vs : Value) (B : Nat) (w : World) (n : Nat) (hk : key < 2 ^ 64) (hh : IsPart w B vh head) (hb : IsPart w B vs sealed) (hB : B ≤ w.heap.size) (hn : sealed.length = n + 8) (hf : openB key num head sealed = false) :
    Calls Try.prog 38 #[.int .u64 (key : Int), .int .i64 num, vh, vs] w fun e w' => e = .returned (.tuple #[.slice none 0 0, .bool false]) ∧ Below w.heap.size w w' := by
  have := open_long key num head sealed vh vs B w hk hh hb hB n hn
  rw [hf] at this
  refine this.mono ?_
  rintro e w' ⟨v', rfl, _, h2, h3⟩
  rw [h2 rfl]
  exact ⟨rfl, h3⟩

theorem u8x (x y : Nat) (hx : x < 256) (hy : y < 256) : bits .xor .u8 (x : Int) (y : Int) = ((x ^^^ y : Nat) : Int) := u8_xor_nat x y hx hy

set_option maxRecDepth 100000 in
set_option maxHeartbeats 1000000 in
theorem walk (key other : Nat) (num m : Int) (A : Option Addr) (cap : Nat) (head : List Nat) (A2 : Option Addr) (cap2 : Nat) (body : List Nat) (at_ : Int) (by_ : Nat) (w : World) (hkey : key < 2 ^ 64) (hoth : other < 2 ^ 64) (hn1 : -9223372036854775808 ≤ num) (hn2 : num ≤ 9223372036854775807) (hm1 : -9223372036854775808 ≤ m) (hm2 : m ≤ 9223372036854775807) (ha : IsBytes w A cap head) (hb : IsBytes w A2 cap2 body) (ht1 : -9223372036854775808 ≤ at_) (ht2 : at_ ≤ 9223372036854775807) (hy2 : by_ ≤ 255) :
    Calls Try.prog 11 #[.int .u64 (key : Int), .int .u64 (other : Int), .int .i64 num, .int .i64 m, .slice A head.length cap, .slice A2 body.length cap2, .int .i64 at_, .int .u8 (by_ : Int)] w fun e w' => e = .returned (.bool true) ∧ Below w.heap.size w w' := by
  have Ph := Lib.hid (of_bytes ha)
  have Pb := Lib.hid (of_bytes hb)
  have HLT := Lib.hid hb.lt
  have HLH := Lib.hid ha.lt
  have hreach := hb.reach
  have hreach2 := ha.reach
  have HC := Lib.hid ha.cap
  have lh := stpN_lt key (unN num)
  have C := Lib.hid (close_any key num head body _ _ _ w hkey Ph.out Pb.out (Nat.le_refl _) (by omega))
  have D1 := Lib.hid (fun (W : World) (vx : Value) (h : Below w.heap.size w W) (hx : IsPart W W.heap.size vx (closeF key num head body)) => open_close key key num num head body _ vx _ W hkey HLT.out ((Ph.out.below h (Nat.le_refl _)).more h.size) hx (Nat.le_refl _))
  have D2 := Lib.hid (fun (W : World) (vx : Value) (h : Below w.heap.size w W) (hx : IsPart W W.heap.size vx (closeF key num head body)) => open_close key other num num head body _ vx _ W hoth HLT.out ((Ph.out.below h (Nat.le_refl _)).more h.size) hx (Nat.le_refl _))
  have D3 := Lib.hid (fun (W : World) (vx : Value) (h : Below w.heap.size w W) (hx : IsPart W W.heap.size vx (closeF key num head body)) => open_close key key num m head body _ vx _ W hkey HLT.out ((Ph.out.below h (Nat.le_refl _)).more h.size) hx (Nat.le_refl _))
  have e2 : decide (stpN other (unN num) = stpN key (unN num)) = ((other : Int) == (key : Int)) := by
    by_cases e : other = key
    · rw [e]; simp
    · rw [beq_false_of_ne (by omega), decide_eq_false]
      exact fun x => e (stp_h hoth hkey (unN_lt _) x)
  have e3 : decide (stpN key (unN m) = stpN key (unN num)) = (m == num) := by
    by_cases e : m = num
    · rw [e]; simp
    · rw [beq_false_of_ne e, decide_eq_false]
      exact fun x => e (unN_inj hm1 hm2 hn1 hn2 (stp_c hkey (unN_lt _) (unN_lt _) x))
  rw [decide_eq_true rfl] at D1
  rw [e2] at D2
  rw [e3] at D3
  have HCL := Lib.hid (closeF_lt key num head body HLT.out)
  have HCN := Lib.hid (closeF_len key num head body)
  have M1 := Lib.hid (fun (W : World) (v : Value) (l : List Nat) (B : Nat) (h : IsPart W B v l) (hB : B ≤ W.heap.size) => mask_part key num l B v W hkey h hB)
  obtain ⟨mk, hmk⟩ : ∃ m, Hid (maskN (stpN key (unN num)) body = m) := ⟨_, rfl⟩
  have HMK : Hid (mk.length = body.length ∧ ∀ c ∈ mk, c < 256) := by rw [← hmk.out]; exact ⟨maskN_len _ _, maskN_lt _ _ hb.lt⟩
  have HMT : Hid (maskN (stpN key (unN num)) mk = body) := by show _ = _; rw [← hmk.out, mask_twice]
  have hk0 := Int.emod_nonneg at_ (show (body.length : Int) + 8 + (head.length : Int) ≠ 0 by omega)
  have hk1 := Int.emod_lt_of_pos at_ (show 0 < (body.length : Int) + 8 + (head.length : Int) by omega)
  have PK := Lib.hid (fun W => pick_any at_ ((body.length : Int) + 8 + (head.length : Int)) W (by omega) (by omega))
  obtain ⟨K, hK⟩ : ∃ K, Hid (at_ % ((body.length : Int) + 8 + (head.length : Int)) = K) := ⟨_, rfl⟩
  rw [hK.out] at hk0 hk1 PK
  have hkey' := Lib.hid hkey
  clear e2 e3 hkey hoth hn1 hn2 hm1 hm2 ht1 ht2 ha hb lh
  go_enter Try.func11, Try.ntmps11
  go_wp2_with fail
  refine C.out.mono ?_; rintro e w1 ⟨v1, rfl, ho, hb1⟩
  have HX := Lib.hid (IsPart.of_own (l := closeF key num head body) ho (by rw [HCN.out]; omega) HCL.out)
  obtain ⟨A1, c1, e1, _⟩ := own_form ho
  subst e1
  have HB1 := Lib.hid hb1
  clear ho hb1
  go_wp2_with fail
  refine (D1.out _ _ HB1.out HX.out).mono ?_; rintro e w2 ⟨v2, rfl, ho2, hb2⟩
  have HX2 := Lib.hid ((HX.out.below hb2 (Nat.le_refl _)).more hb2.size)
  have HV2 := Lib.hid (IsPart.of_own (ho2 trivial) (by omega) HLT.out)
  obtain ⟨A2', c2', e2, _⟩ := own_form (ho2 trivial)
  subst e2
  have HB2 := Lib.hid (HB1.out.trans (hb2.mono HB1.out.size))
  clear hb2 ho2
  have HS : Hid (∀ W', Below w2.heap.size w2 W' → Below w2.heap.size w2 W' ∧ (convert 53 9 (.slice A2' body.length c2')).run Try.prog W' = .ok (.string (strOf body)) W' ∧ (convert 53 9 (.slice A2 body.length cap2)).run Try.prog W' = .ok (.string (strOf body)) W') := fun W' h =>
    ⟨h, cv_of (HV2.out.below h (Nat.le_refl _)), cv_of (Pb.out.below (HB2.out.trans (h.mono HB2.out.size)) (Nat.le_refl _))⟩
  have hw8 : IntKind.i64.wrap ((body.length : Int) + 8) = (body.length : Int) + 8 := IntWalk.i64_in _ (by omega)
  go_upto_region 3 with (fail)
  go_cut [75] (fun v wx => v = .bool false ∧ Hid (Below w2.heap.size w2 wx))
  case first =>
    refine wp_region_held_drew (S := fun W' => Below w2.heap.size w2 W' ∧ (convert 53 9 (.slice A2' body.length c2')).run Try.prog W' = .ok (.string (strOf body)) W' ∧ (convert 53 9 (.slice A2 body.length cap2)).run Try.prog W' = .ok (.string (strOf body)) W') (by kernel_rfl) ?_ (fun hHeld => ?_)
    · exact HS.out _ (Below.refl _ _).drew
    refine wpAnyH_ready (rs := [0]) (by kernel_rfl) (by simp) ?_
    refine AllReadyH.cons rfl (fun K hK => ?_) AllReadyH.nil
    go_simp
    refine (Known.known_any _).mono ?_
    rintro e w4 ⟨rfl, hb4⟩
    have HB4 : Hid (Below w2.heap.size w2 w4) := (Below.refl _ _).drew.trans (hb4.mono (Nat.le_refl _))
    clear hb4
    refine hK.out _ _ ?_ (fun hHeld => ?_)
    · exact HS.out _ HB4.out
    clear hK K
    go_simp
    refine wpAnyH_take (i := 1) (v := ?_) rfl (by kernel_rfl) (by kernel_rfl) (by kernel_rfl) (fun _ _ _ h => h) (Or.inl ⟨by rfl, ?_⟩) (by assumption) ?_
    rotate_left
    · intro w hSw; (try dsimp only at hSw); go_simp; try with_reducible rfl
    go_simp
    refine wpAnyH_take (i := 2) (v := ?_) rfl (by kernel_rfl) (by kernel_rfl) (by kernel_rfl) (fun _ _ _ h => h) (Or.inl ⟨by rfl, ?_⟩) (by assumption) ?_
    rotate_left
    · intro w hSw; (try dsimp only at hSw); go_simp; try with_reducible rfl
    go_simp
    refine wpAnyH_take (i := 3) (v := ?_) rfl (by kernel_rfl) (by kernel_rfl) (by kernel_rfl) (fun _ _ _ h => h) (Or.inl ⟨by rfl, ?_⟩) (by assumption) ?_
    rotate_left
    · intro w hSw; (try dsimp only at hSw); go_simp; try with_reducible rfl
    go_simp
    refine wpAnyH_take (i := 4) (v := ?_) rfl (by kernel_rfl) (by kernel_rfl) (by kernel_rfl) (fun _ _ _ h => h) (Or.inl ⟨by rfl, ?_⟩) (by assumption) ?_
    rotate_left
    · intro w hSw; (try dsimp only at hSw); go_simp; try with_reducible rfl
    go_simp
    refine wpAnyH_take (i := 5) (v := ?_) rfl (by kernel_rfl) (by kernel_rfl) (by kernel_rfl) (fun _ _ _ h => h) (Or.inl ⟨by rfl, ?_⟩) (by assumption) ?_
    rotate_left
    · intro w hSw; (try dsimp only at hSw); go_simp; try with_reducible rfl
    go_simp
    refine wpAnyH_take (i := 6) (v := ?_) rfl (by kernel_rfl) (by kernel_rfl) (by kernel_rfl) (fun _ _ _ h => h) (Or.inl ⟨by rfl, ?_⟩) (by assumption) ?_
    rotate_left
    · intro w hSw; (try dsimp only at hSw); go_simp; try with_reducible rfl
    go_simp
    refine wpAnyH_take (i := 7) (v := ?_) rfl (by kernel_rfl) (by kernel_rfl) (by kernel_rfl) (fun _ _ _ h => h) (Or.inl ⟨by rfl, ?_⟩) (by assumption) ?_
    rotate_left
    · intro w hSw; (try dsimp only at hSw); go_simp; try with_reducible rfl
    go_simp
    refine wpAnyH_take (i := 8) (v := ?_) rfl (by kernel_rfl) (by kernel_rfl) (by kernel_rfl) (fun _ _ _ h => h) (Or.inl ⟨by rfl, ?_⟩) (by assumption) ?_
    rotate_left
    · intro w hSw; (try dsimp only at hSw); go_simp; try with_reducible rfl
    go_simp
    refine wpAnyH_take (i := 9) (v := ?_) rfl (by kernel_rfl) (by kernel_rfl) (by kernel_rfl) (fun _ _ _ h => h) (Or.inl ⟨by rfl, ?_⟩) (by assumption) ?_
    rotate_left
    · intro w hSw; (try dsimp only at hSw); go_simp; try with_reducible rfl
    go_simp
    refine wpAnyH_take (i := 10) (v := ?_) rfl (by kernel_rfl) (by kernel_rfl) (by kernel_rfl) (fun _ _ _ h => h) (Or.inl ⟨by rfl, ?_⟩) (by assumption) ?_
    rotate_left
    · intro w hSw; (try dsimp only at hSw); go_simp; try with_reducible rfl
    go_simp
    refine wpAnyH_take (i := 11) (v := ?_) rfl (by kernel_rfl) (by kernel_rfl) (by kernel_rfl) (fun _ _ _ h => h) (Or.inl ⟨by rfl, ?_⟩) (by assumption) ?_
    rotate_left
    · intro w hSw; (try dsimp only at hSw); go_simp; try with_reducible rfl
    go_simp
    refine wpAnyH_take (i := 12) (v := ?_) rfl (by kernel_rfl) (by kernel_rfl) (by kernel_rfl) (fun _ _ _ h => h) (Or.inl ⟨by rfl, ?_⟩) (by assumption) ?_
    rotate_left
    · intro w hSw; (try dsimp only at hSw); go_simp; try with_reducible rfl
    go_simp
    refine wpAnyH_take (i := 13) (v := ?_) rfl (by kernel_rfl) (by kernel_rfl) (by kernel_rfl) (fun _ _ _ h => h) (Or.inl ⟨by rfl, ?_⟩) (by assumption) ?_
    rotate_left
    · intro w hSw; (try dsimp only at hSw); go_simp; try with_reducible rfl
    go_simp
    refine wpAnyH_take (i := 14) (v := ?_) rfl (by kernel_rfl) (by kernel_rfl) (by kernel_rfl) (fun _ _ _ h => h) (Or.inl ⟨by rfl, ?_⟩) (by assumption) ?_
    rotate_left
    · intro w hSw; (try dsimp only at hSw); go_simp; try with_reducible rfl
    go_simp
    refine wpAnyH_take (i := 15) (v := ?_) rfl (by kernel_rfl) (by kernel_rfl) (by kernel_rfl) (fun _ _ _ h => h) (Or.inl ⟨by rfl, ?_⟩) (by assumption) ?_
    rotate_left
    · intro w hSw; (try dsimp only at hSw); go_simp; try with_reducible rfl
    go_simp
    refine wpAnyH_take (i := 16) (v := ?_) rfl (by kernel_rfl) (by kernel_rfl) (by kernel_rfl) (fun _ _ _ h => h) (Or.inl ⟨by rfl, ?_⟩) (by assumption) ?_
    rotate_left
    · intro w hSw; (try dsimp only at hSw); go_simp; try with_reducible rfl
    go_simp
    refine wpAnyH_take (i := 17) (v := ?_) rfl (by kernel_rfl) (by kernel_rfl) (by kernel_rfl) (fun _ _ _ h => h) (Or.inl ⟨by rfl, ?_⟩) (by assumption) ?_
    rotate_left
    · intro w hSw; (try dsimp only at hSw); go_simp; try with_reducible rfl
    go_simp
    refine wpAnyH_take (i := 18) (v := ?_) rfl (by kernel_rfl) (by kernel_rfl) (by kernel_rfl) (fun _ _ _ h => h) (Or.inl ⟨by rfl, ?_⟩) (by assumption) ?_
    rotate_left
    · intro w hSw; (try dsimp only at hSw); go_simp; try with_reducible rfl
    go_simp
    refine wpAnyH_take (i := 19) (v := ?_) rfl (by kernel_rfl) (by kernel_rfl) (by kernel_rfl) (fun _ _ _ h => h) (Or.inl ⟨by rfl, ?_⟩) (by assumption) ?_
    rotate_left
    · intro w hSw; (try dsimp only at hSw); go_simp; try with_reducible rfl
    go_simp
    refine wpAnyH_take (i := 20) (v := ?_) rfl (by kernel_rfl) (by kernel_rfl) (by kernel_rfl) (fun _ _ _ h => h) (Or.inl ⟨by rfl, ?_⟩) (by assumption) ?_
    rotate_left
    · intro w hSw; (try dsimp only at hSw); go_simp; try with_reducible rfl
    go_simp
    refine wpAnyH_take (i := 21) (v := ?_) rfl (by kernel_rfl) (by kernel_rfl) (by kernel_rfl) (fun _ _ _ h => h) (Or.inl ⟨by rfl, ?_⟩) (by assumption) ?_
    rotate_left
    · intro w hSw; (try dsimp only at hSw); go_simp; try with_reducible rfl
    go_simp
    refine wpAnyH_take (i := 22) (v := ?_) rfl (by kernel_rfl) (by kernel_rfl) (by kernel_rfl) (fun _ _ _ h => h) (Or.inl ⟨by rfl, ?_⟩) (by assumption) ?_
    rotate_left
    · intro w hSw; (try dsimp only at hSw); go_simp; try with_reducible rfl
    go_simp
    refine wpAnyH_take (i := 23) (v := ?_) rfl (by kernel_rfl) (by kernel_rfl) (by kernel_rfl) (fun _ _ _ h => h) (Or.inl ⟨by rfl, ?_⟩) (by assumption) ?_
    rotate_left
    · intro w hSw; (try dsimp only at hSw); go_simp; try with_reducible rfl
    go_simp
    refine wpAnyH_take (i := 24) (v := ?_) rfl (by kernel_rfl) (by kernel_rfl) (by kernel_rfl) (fun _ _ _ h => h) (Or.inl ⟨by rfl, ?_⟩) (by assumption) ?_
    rotate_left
    · intro w hSw; (try dsimp only at hSw); go_simp; try with_reducible rfl
    go_simp
    refine wpAnyH_take (i := 25) (v := ?_) rfl (by kernel_rfl) (by kernel_rfl) (by kernel_rfl) (fun _ _ _ h => h) (Or.inl ⟨by rfl, ?_⟩) (by assumption) ?_
    rotate_left
    · intro w hSw; (try dsimp only at hSw); go_simp; try with_reducible rfl
    go_simp
    refine wpAnyH_take (i := 26) (v := ?_) rfl (by kernel_rfl) (by kernel_rfl) (by kernel_rfl) (fun _ _ _ h => h) (Or.inl ⟨by rfl, ?_⟩) (by assumption) ?_
    rotate_left
    · intro w hSw; (try dsimp only at hSw); go_simp; try with_reducible rfl
    go_simp
    refine wpAnyH_take (i := 30) (v := ?_) rfl (by kernel_rfl) (by kernel_rfl) (by kernel_rfl) (fun _ _ _ h => h) (Or.inl ⟨by rfl, ?_⟩) (by assumption) ?_
    rotate_left
    · intro w hSw; (try dsimp only at hSw); go_simp; try with_reducible rfl
    go_simp
    refine wpAnyH_take (i := 31) (v := ?_) rfl (by kernel_rfl) (by kernel_rfl) (by kernel_rfl) (fun _ _ _ h => h) (Or.inl ⟨by rfl, ?_⟩) (by assumption) ?_
    rotate_left
    · intro w hSw; (try dsimp only at hSw); go_simp; try with_reducible rfl
    go_simp
    refine wpAnyH_ready (rs := [27]) (by kernel_rfl) (by simp) ?_
    refine AllReadyH.cons rfl (fun K hK => ?_) AllReadyH.nil
    go_simp
    refine (M1.out _ _ body w.heap.size (Pb.out.below (HB2.out.trans (HB4.out.mono HB2.out.size)) (Nat.le_refl _)) (Nat.le_trans HB2.out.size HB4.out.size)).mono ?_
    rintro e w5 ⟨v5, rfl, ho5, hb5⟩
    rw [hmk.out] at ho5
    have HP5 := Lib.hid (IsPart.of_own ho5 (by rw [HMK.out.1]; omega) HMK.out.2)
    obtain ⟨A5, c5, e5, _⟩ := own_form ho5
    subst e5
    have HB5 : Hid (Below w2.heap.size w2 w5) := HB4.out.trans (hb5.mono HB4.out.size)
    clear ho5 hb5
    refine hK.out _ _ ?_ (fun hHeld => ?_)
    · exact HS.out _ HB5.out
    clear hK K
    go_simp
    refine wpAnyH_ready (rs := [28]) (by kernel_rfl) (by simp) ?_
    refine AllReadyH.cons rfl (fun K hK => ?_) AllReadyH.nil
    go_simp
    refine (M1.out _ _ mk w5.heap.size HP5.out (Nat.le_refl _)).mono ?_
    rintro e w6 ⟨v6, rfl, ho6, hb6⟩
    rw [HMT.out] at ho6
    have HP6 := Lib.hid (IsPart.of_own ho6 (by omega) HLT.out)
    obtain ⟨A6, c6, e6, _⟩ := own_form ho6
    subst e6
    have HB6 : Hid (Below w2.heap.size w2 w6) := HB5.out.trans (hb6.mono HB5.out.size)
    have k6 := cv_of HP6.out
    unfold Cv at k6
    clear ho6 hb6
    refine hK.out _ _ ?_ (fun hHeld => ?_)
    · exact HS.out _ HB6.out
    clear hK K
    go_simp
    refine wpAnyH_ready (rs := [29]) (by kernel_rfl) (by simp) ?_
    refine AllReadyH.cons rfl (fun K hK => ?_) AllReadyH.nil
    go_simp
    refine hK.out _ _ ?_ (fun hHeld => ?_)
    · exact HS.out _ HB6.out
    clear hK K
    go_simp
    refine wpAnyH_take (i := 32) (v := ?_) rfl (by kernel_rfl) (by kernel_rfl) (by kernel_rfl) (fun _ _ _ h => h) (Or.inl ⟨by rfl, ?_⟩) (by assumption) ?_
    rotate_left
    · intro w hSw; (try dsimp only at hSw); go_simp; try with_reducible rfl
    go_simp
    refine wpAnyH_take (i := 33) (v := ?_) rfl (by kernel_rfl) (by kernel_rfl) (by kernel_rfl) (fun _ _ _ h => h) (Or.inl ⟨by rfl, ?_⟩) (by assumption) ?_
    rotate_left
    · intro w hSw; (try dsimp only at hSw); go_simp; try with_reducible rfl
    go_simp
    refine wpAnyH_done (by kernel_rfl) ?_ _
    go_wp2_with fail
    go_meet
    case rel => exact ⟨rfl, HB6⟩
  case rest =>
  obtain ⟨rfl, HB6⟩ := hcut
  obtain ⟨w6, hw6⟩ : ∃ w6 : World, wc = w6 := ⟨_, rfl⟩
  subst hw6
  have HB26 : Hid (Below w.heap.size w wc) := HB2.out.trans (HB6.out.mono HB2.out.size)
  have HX6 := Lib.hid ((HX2.out.below HB6.out (Nat.le_refl _)).more HB6.out.size)
  clear hw8
  go_wp2_with fail
  refine (D2.out _ _ HB26.out HX6.out).mono ?_; rintro e w7 ⟨v7, rfl, _, hb7⟩
  have HB7 := Lib.hid (HB26.out.trans (hb7.mono HB26.out.size))
  have HX7 := Lib.hid ((HX6.out.below hb7 (Nat.le_refl _)).more hb7.size)
  clear hb7
  go_wp2_with fail
  refine (D3.out _ _ HB7.out HX7.out).mono ?_; rintro e w8 ⟨v8, rfl, _, hb8⟩
  have HB8 := Lib.hid (HB7.out.trans (hb8.mono HB7.out.size))
  have HX8 := Lib.hid ((HX7.out.below hb8 (Nat.le_refl _)).more hb8.size)
  clear hb8
  by_cases hy0 : by_ = 0
  · subst hy0
    go_wp2_with fail
    go_ret
    exact ⟨rfl, HB8.out⟩
  have hy3 : ((by_ : Int) == 0) = false := by simp; omega
  go_wp2_with fail
  refine (few_part (closeF key num head body) _ w8.heap.size _ _ (by rw [HCN.out]; simp) HX8.out (Nat.le_refl _)).mono ?_; rintro e w9 ⟨v9, rfl, ho9, hb9⟩
  have HB9 := Lib.hid (HB8.out.trans (hb9.mono HB8.out.size))
  rw [HCN.out] at ho9
  obtain ⟨g9, c9, e9, _⟩ := own_at ho9 (by omega) (by decide)
  subst e9
  have HO9 := Lib.hid ho9
  clear hb9 ho9
  go_wp2_with fail
  refine (few_part head _ w9.heap.size _ _ rfl ((Ph.out.below HB9.out (Nat.le_refl _)).more HB9.out.size) (Nat.le_refl _)).mono ?_; rintro e w10 ⟨v10, rfl, ho10, hb10⟩
  have HB10 := Lib.hid (HB9.out.trans (hb10.mono HB9.out.size))
  have HO9' := Lib.hid (own_below HO9.out hb10)
  have HB910 := Lib.hid hb10
  obtain ⟨A10, c10, e10, _⟩ := own_form ho10
  subst e10
  have HO10 := Lib.hid ho10
  clear hb10 ho10
  go_wp2_with fail
  refine (PK.out _).mono ?_; rintro e w' ⟨rfl, rfl⟩
  have HY := Lib.hid (IsPart.of_own HO9.out (by rw [HCN.out]; omega) HCL.out)
  have HH10 := Lib.hid (IsPart.of_own HO10.out (by omega) HLH.out)
  have hby : by_ < 256 := by omega
  by_cases hlt : K < (head.length : Int)
  · obtain ⟨k, hk⟩ : ∃ k : Nat, K = (k : Int) := ⟨K.toNat, by omega⟩
    subst hk
    have hkl : k < head.length := by omega
    obtain ⟨g, c, e, hge⟩ := own_at HO10.out (by omega) (by decide)
    simp only [Value.slice.injEq, true_and] at e
    obtain ⟨rfl, rfl⟩ := e
    have hx := getD_lt HLH.out k
    have hcell : w10.cell? ⟨g, k, none⟩ = some (.int .u8 ((head.getD k 0 : Nat) : Int)) := by
      rw [HO10.out.cellAt k (by omega)]
      exact bv_get head k hkl
    have hfz := HO10.out.frozenAt k
    have HF := Lib.hid (openB_head key num head body k (head.getD k 0 ^^^ by_) HLH.out HLT.out (by omega) (by omega) hkl (Nat.xor_lt_two_pow (n := 8) hx hby) (xor_ne hy0))
    have HW : Hid (Below w.heap.size w (w10.setCell ⟨g, k, none⟩ (.int .u8 ((head.getD k 0 ^^^ by_ : Nat) : Int)))) := HB10.out.setCell (Nat.le_trans HB9.out.size hge) _
    have HN : Hid (IsPart (w10.setCell ⟨g, k, none⟩ (.int .u8 ((head.getD k 0 ^^^ by_ : Nat) : Int))) w10.heap.size (.slice (some ⟨g, 0, none⟩) head.length c10) (head.set k (head.getD k 0 ^^^ by_))) := by
      have := (HO10.out.stored k (.int .u8 ((head.getD k 0 ^^^ by_ : Nat) : Int))).1
      have e : (bv head).set k (.int .u8 ((head.getD k 0 ^^^ by_ : Nat) : Int)) = bv (head.set k (head.getD k 0 ^^^ by_)) := by simp [bv, List.map_set]
      rw [e] at this
      have := IsPart.of_own this (by rw [List.length_set]; omega) (fun x h => by
        rcases List.mem_or_eq_of_mem_set h with h | h
        · exact HLH.out x h
        · rw [h]; exact Nat.xor_lt_two_pow (n := 8) hx hby)
      exact this.more (by simp)
    have HNY : Hid (IsPart (w10.setCell ⟨g, k, none⟩ (.int .u8 ((head.getD k 0 ^^^ by_ : Nat) : Int))) w10.heap.size (.slice (some ⟨g9, 0, none⟩) (body.length + 8) c9) (closeF key num head body)) :=
      (HY.out.below (HB910.out.setCell hge _) (Nat.le_refl _)).more HB910.out.size
    have HXR := Lib.hid (u8x (head.getD k 0) by_ hx hby)
    obtain ⟨x, hxx⟩ : ∃ x, Hid (head.getD k 0 = x) := ⟨_, rfl⟩
    rw [hxx.out] at hcell HXR HF HW HN HNY
    have hki : (k : Int) < (head.length : Int) := hlt
    clear hx hlt hkl hge
    go_wp2_with fail
    rw [HXR.out]
    refine (open_false key num (head.set k (x ^^^ by_)) (closeF key num head body) _ _ w10.heap.size _ body.length hkey'.out HN.out HNY.out (by simp) HCN.out HF.out).mono ?_; rintro e w11 ⟨rfl, hb11⟩
    have HE := Lib.hid (HW.out.trans (hb11.mono HW.out.size))
    clear hb11
    go_wp2_with fail
    go_ret
    exact ⟨rfl, HE.out⟩
  · have hJ : K.toNat - head.length < body.length + 8 := by omega
    have hx := getD_lt HCL.out (K.toNat - head.length)
    have hcell : w10.cell? ⟨g9, K.toNat - head.length, none⟩ = some (.int .u8 (((closeF key num head body).getD (K.toNat - head.length) 0 : Nat) : Int)) := by
      rw [HO9'.out.cellAt _ (by omega)]
      exact bv_get _ _ (by rw [HCN.out]; exact hJ)
    have hfz := HO9'.out.frozenAt (K.toNat - head.length)
    have HF := Lib.hid (openB_sealed key num head body (K.toNat - head.length) ((closeF key num head body).getD (K.toNat - head.length) 0 ^^^ by_) HLT.out (by omega) hJ (Nat.xor_lt_two_pow (n := 8) hx hby) (xor_ne hy0))
    have hg9 := (HO9'.out.lt g9 rfl).1
    have HW : Hid (Below w.heap.size w (w10.setCell ⟨g9, K.toNat - head.length, none⟩ (.int .u8 (((closeF key num head body).getD (K.toNat - head.length) 0 ^^^ by_ : Nat) : Int)))) := HB10.out.setCell (Nat.le_trans HB8.out.size hg9) _
    have HN : Hid (IsPart (w10.setCell ⟨g9, K.toNat - head.length, none⟩ (.int .u8 (((closeF key num head body).getD (K.toNat - head.length) 0 ^^^ by_ : Nat) : Int))) w10.heap.size (.slice (some ⟨g9, 0, none⟩) (body.length + 8) c9) ((closeF key num head body).set (K.toNat - head.length) ((closeF key num head body).getD (K.toNat - head.length) 0 ^^^ by_))) := by
      have := (HO9'.out.stored (K.toNat - head.length) (.int .u8 (((closeF key num head body).getD (K.toNat - head.length) 0 ^^^ by_ : Nat) : Int))).1
      have e : ∀ (l : List Nat) (j y : Nat), (bv l).set j (.int .u8 (y : Int)) = bv (l.set j y) := fun l j y => by simp [bv, List.map_set]
      rw [e] at this
      have := IsPart.of_own this (by rw [List.length_set, HCN.out]; omega) (fun x h => by
        rcases List.mem_or_eq_of_mem_set h with h | h
        · exact HCL.out x h
        · rw [h]; exact Nat.xor_lt_two_pow (n := 8) hx hby)
      exact this.more (by simp)
    have HNH : Hid (IsPart (w10.setCell ⟨g9, K.toNat - head.length, none⟩ (.int .u8 (((closeF key num head body).getD (K.toNat - head.length) 0 ^^^ by_ : Nat) : Int))) w10.heap.size (.slice A10 head.length c10) head) := by
      have := HO10.out.kept (HO9'.out.stored (K.toNat - head.length) (.int .u8 (((closeF key num head body).getD (K.toNat - head.length) 0 ^^^ by_ : Nat) : Int))).2 (by
        by_cases hn : (Value.slice A10 head.length c10).ownBlock = none
        · exact .inl hn
        · exact .inr fun hg => by
            have h1 := (HO10.out.lt g9 hg).1
            have h2 := (HO9.out.lt g9 rfl).2
            omega)
      have := IsPart.of_own this (by omega) HLH.out
      exact this.more (by simp)
    have HXR := Lib.hid (u8x ((closeF key num head body).getD (K.toNat - head.length) 0) by_ hx hby)
    obtain ⟨x, hxx⟩ : ∃ x, Hid ((closeF key num head body).getD (K.toNat - head.length) 0 = x) := ⟨_, rfl⟩
    rw [hxx.out] at hcell HXR HF HW HN HNH
    clear hx hJ hg9
    go_wp2_with fail
    rw [HXR.out]
    refine (open_false key num head ((closeF key num head body).set (K.toNat - head.length) (x ^^^ by_)) _ _ w10.heap.size _ body.length hkey'.out HNH.out HN.out (by simp) (by rw [List.length_set, HCN.out]) HF.out).mono ?_; rintro e w11 ⟨rfl, hb11⟩
    have HE := Lib.hid (HW.out.trans (hb11.mono HW.out.size))
    clear hb11
    go_wp2_with fail
    go_ret
    exact ⟨rfl, HE.out⟩

theorem walk' (key other : Nat) (num m : Int) (A : Option Addr) (cap : Nat) (head : List Nat) (A2 : Option Addr) (cap2 : Nat) (body : List Nat) (at_ by_ : Int) (w : World) (hkey : key < 2 ^ 64) (hoth : other < 2 ^ 64) (hn1 : -9223372036854775808 ≤ num) (hn2 : num ≤ 9223372036854775807) (hm1 : -9223372036854775808 ≤ m) (hm2 : m ≤ 9223372036854775807) (ha : IsBytes w A cap head) (hb : IsBytes w A2 cap2 body) (ht1 : -9223372036854775808 ≤ at_) (ht2 : at_ ≤ 9223372036854775807) (hy1 : 0 ≤ by_) (hy2 : by_ ≤ 255) :
    Calls Try.prog 11 #[.int .u64 (key : Int), .int .u64 (other : Int), .int .i64 num, .int .i64 m, .slice A head.length cap, .slice A2 body.length cap2, .int .i64 at_, .int .u8 by_] w fun e w' => e = .returned (.bool true) ∧ Below w.heap.size w w' := by
  obtain ⟨y, rfl⟩ := Int.eq_ofNat_of_zero_le hy1
  exact walk key other num m A cap head A2 cap2 body at_ y w hkey hoth hn1 hn2 hm1 hm2 ha hb ht1 ht2 (by omega)
end Go.Proofs.Ytegfaecbealnhab.BackLaw
