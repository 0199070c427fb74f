/- SealApart: the walk. Conditions: the arguments' rows; body and more together are no more than 2^20 bytes. -/
import Derived.Test.YtegfaecbealnhabB1
import Derived.Deep.QuietTactic
import Derived.BigQuiet
import Derived.Deep.RegionHeld3
import Derived.IntWalk
namespace Go.Proofs.Ytegfaecbealnhab.ApartLaw
open Go Go.RowKit
open PartsLaw (of_bytes)
open BackLaw (cv_of few_part Cv)

theorem IsPart.len {w : World} {B : Nat} {v : Value} {l : List Nat} (h : IsPart w B v l) : ∃ A c, v = .slice A l.length c ∧ l.length ≤ c := by
  obtain ⟨A, c, h1, _, h2, _⟩ := h
  exact ⟨A, c, h1, h2⟩
/-- The first k of them. -/
theorem IsPart.head {w : World} {B k : Nat} {A : Option Addr} {n c : Nat} {l : List Nat} (h : IsPart w B (.slice A n c) l) (hk : k ≤ n) : IsPart w B (.slice A k c) (l.take k) := by
  obtain ⟨A', c', e, h1, h2, h3, h4⟩ := h
  simp only [Value.slice.injEq] at e
  obtain ⟨rfl, rfl, rfl⟩ := e
  have hl : (l.take k).length = k := by rw [List.length_take]; omega
  refine ⟨A, c, by rw [hl], ?_, by omega, by omega, fun x hx => h4 x (List.mem_of_mem_take hx)⟩
  rw [hl, ← bv_take]
  exact h1.head k hk
theorem belowN (B : Nat) (w : World) (n : Nat) : Below B w (w.drewN n) := ⟨rfl, rfl, rfl, Nat.le_refl _, fun _ _ => rfl⟩
theorem close_take (key : Nat) (num : Int) (head body : List Nat) : (closeF key num head body).take body.length = maskN (stpN key (unN num)) body := by
  unfold closeF
  have := maskN_len (stpN key (unN num)) body
  rw [← this, List.take_left]

set_option maxRecDepth 100000 in
set_option maxHeartbeats 1000000 in
theorem walk (key : Nat) (num m : Int) (A : Option Addr) (cap : Nat) (body : List Nat) (A2 : Option Addr) (cap2 : Nat) (more : List Nat) (A3 : Option Addr) (cap3 : Nat) (head : List Nat) (w : World) (hkey : key < 2 ^ 64) (hn1 : -9223372036854775808 ≤ num) (hn2 : num ≤ 9223372036854775807) (hm1 : -9223372036854775808 ≤ m) (hm2 : m ≤ 9223372036854775807) (hb : IsBytes w A cap body) (hc : IsBytes w A2 cap2 more) (ha : IsBytes w A3 cap3 head) (hsum : body.length + more.length ≤ 1048576) :
    Calls Try.prog 13 #[.int .u64 (key : Int), .int .i64 num, .int .i64 m, .slice A body.length cap, .slice A2 more.length cap2, .slice A3 head.length cap3] w fun e w' => e = .returned (.bool true) ∧ Below w.heap.size w w' := by
  have Ph := Lib.hid (of_bytes ha)
  have Pb := Lib.hid (of_bytes hb)
  have Pm := Lib.hid (of_bytes hc)
  have HRm := Lib.hid hc.rd
  have HLT := Lib.hid hb.lt
  have HLM := Lib.hid hc.lt
  have lh := stpN_lt key (unN num)
  obtain ⟨i0, hi, hz0, hz1, hz2⟩ := info_parts infoB
  have HI := Lib.hid (And.intro hi (And.intro hz0 (And.intro hz1 hz2)))
  have M1 := Lib.hid (fun (W : World) (v : Value) (l : List Nat) (B : Nat) (h : IsPart W B v l) (hB : B ≤ W.heap.size) => mask_part key num l B v W hkey h hB)
  have C1 := Lib.hid (fun (W : World) (h : Below w.heap.size w W) => close_any key num head body _ _ _ W hkey (Ph.out.below h (Nat.le_refl _)) (Pb.out.below h (Nat.le_refl _)) h.size (by omega))
  have C2 := Lib.hid (fun (W : World) (h : Below w.heap.size w W) => close_any key m head body _ _ _ W hkey (Ph.out.below h (Nat.le_refl _)) (Pb.out.below h (Nat.le_refl _)) h.size (by omega))
  have D1 := Lib.hid (fun (W : World) (vx : Value) (h : Below w.heap.size w W) (hx : IsPart W W.heap.size vx (closeF key m head body)) => open_close key key m m head body _ vx _ W hkey HLT.out ((Ph.out.below h (Nat.le_refl _)).more h.size) hx (Nat.le_refl _))
  have D2 := Lib.hid (fun (W : World) (vx : Value) (h : Below w.heap.size w W) (hx : IsPart W W.heap.size vx (closeF key m head body)) => open_close key key m num head body _ vx _ W hkey HLT.out ((Ph.out.below h (Nat.le_refl _)).more h.size) hx (Nat.le_refl _))
  have e3 : decide (stpN key (unN num) = stpN key (unN m)) = (num == m) := by
    by_cases e : num = m
    · rw [e]; simp
    · rw [beq_false_of_ne e, decide_eq_false]
      exact fun x => e (unN_inj hn1 hn2 hm1 hm2 (stp_c hkey (unN_lt _) (unN_lt _) x))
  rw [decide_eq_true rfl] at D1
  rw [e3] at D2
  have X1 := Lib.hid (closeF_lt key num head body HLT.out)
  have N1 := Lib.hid (closeF_len key num head body)
  have K1 := Lib.hid (close_take key num head body)
  have X2 := Lib.hid (closeF_lt key m head body HLT.out)
  have N2 := Lib.hid (closeF_len key m head body)
  have MA := Lib.hid (mask_app (stpN key (unN num)) body more)
  have ML := Lib.hid (And.intro (maskN_len (stpN key (unN num)) body) (And.intro (maskN_lt (stpN key (unN num)) body HLT.out) (And.intro (maskN_len (stpN key (unN num)) (body ++ more)) (maskN_lt (stpN key (unN num)) (body ++ more) (fun c hc => by
    rcases List.mem_append.1 hc with h | h
    · exact HLT.out c h
    · exact HLM.out c h)))))
  obtain ⟨x, hxx⟩ : ∃ z, Hid (closeF key num head body = z) := ⟨_, rfl⟩
  obtain ⟨y, hyy⟩ : ∃ z, Hid (closeF key m head body = z) := ⟨_, rfl⟩
  rw [hxx.out] at C1 X1 N1 K1
  rw [hyy.out] at C2 D1 D2 X2 N2
  obtain ⟨h, hhh⟩ : ∃ h, Hid (stpN key (unN num) = h) := ⟨_, rfl⟩
  rw [hhh.out] at M1 MA ML K1
  obtain ⟨mk, hmk⟩ : ∃ z, Hid (maskN h body = z) := ⟨_, rfl⟩
  rw [hmk.out] at MA ML K1
  obtain ⟨mm, hmm⟩ : ∃ z, Hid (maskN h (body ++ more) = z) := ⟨_, rfl⟩
  rw [hmm.out] at MA ML
  clear e3 hkey hn1 hn2 hm1 hm2 ha hb hc lh hi hz0 hz1 hz2
  go_enter Try.func13, Try.ntmps13
  go_wp2_with fail
  refine (M1.out _ _ body _ Pb.out (Nat.le_refl _)).mono ?_; rintro e w1 ⟨v1, rfl, ho1, hb1⟩
  rw [hmk.out] at ho1
  have HP1 := Lib.hid (IsPart.of_own ho1 (by rw [ML.out.1]; omega) ML.out.2.1)
  obtain ⟨A1, c1, e1, _⟩ := own_form ho1
  subst e1
  have HB1 := Lib.hid hb1
  clear ho1 hb1
  go_wp2_with fail
  refine (few_part body _ _ _ _ rfl (Pb.out.below HB1.out (Nat.le_refl _)) HB1.out.size).mono ?_; rintro e w2 ⟨v2, rfl, ho2, hb2⟩
  have HB2 := Lib.hid (HB1.out.trans (hb2.mono HB1.out.size))
  have HP1' := Lib.hid ((HP1.out.below hb2 (Nat.le_refl _)).more hb2.size)
  obtain ⟨A2', c2', e2, _⟩ := own_form ho2
  subst e2
  have HO2 := Lib.hid ho2
  have HRm2 : Hid (Rd w2 w.heap.size A2 (more.length * 1) (bv more)) := by show Rd _ _ _ _ _; rw [Nat.mul_one]; exact HRm.out.below HB2.out (Nat.le_refl _)
  have HS2 : Hid (w1.heap.size ≤ w2.heap.size) := hb2.size
  have HB12 := Lib.hid hb2
  clear ho2 hb2
  go_wp2_with (at_builtin; refine wpList_app _ rfl (.tmp 30) (.tmp 31) 53 rfl w1.heap.size 5 i0 (.int .u8 0) 1 1 Try.underlying53 HI.out.1 HI.out.2.1 HI.out.2.2.1 HI.out.2.2.2 rfl (by decide) (.slice A2' body.length c2') body.length (bv body) rfl HO2.out w.heap.size A2 more.length cap2 (bv more) rfl HRm2.out (ones_bv _) (by unfold maxLen; omega) (by omega) HS2.out ?_)
  intro v3 w3 ho3 hg3
  have HB3 : Hid (Below w.heap.size w w3) := HB2.out.grown hg3 HB2.out.size (fun g hg => by
    have := (HO2.out.lt g hg).1
    exact Nat.le_trans HB1.out.size this)
  have HB13 : Hid (Below w1.heap.size w1 w3) := HB12.out.grown hg3 HS2.out (fun g hg => (HO2.out.lt g hg).1)
  rw [← bv_app] at ho3
  have HP3 := Lib.hid (IsPart.of_own ho3 (by rw [List.length_append]; omega) (fun c hc => by
    rcases List.mem_append.1 hc with h | h
    · exact HLT.out c h
    · exact HLM.out c h))
  obtain ⟨A3', c3', e3, _⟩ := own_form ho3
  subst e3
  clear ho3 hg3
  go_wp2_with fail
  refine (M1.out _ _ (body ++ more) _ HP3.out (Nat.le_refl _)).mono ?_; rintro e w4 ⟨v4, rfl, ho4, hb4⟩
  rw [hmm.out, List.length_append] at ho4
  have hll : (body ++ more).length = body.length + more.length := by rw [List.length_append]
  have HP4 := Lib.hid (IsPart.of_own ho4 (by rw [ML.out.2.2.1, hll]; omega) ML.out.2.2.2)
  have HP14 := Lib.hid (((HP1.out.below HB13.out (Nat.le_refl _)).more HB13.out.size).below hb4 (Nat.le_refl _))
  have HB4 := Lib.hid (HB3.out.trans (hb4.mono HB3.out.size))
  have HS4 : Hid (w3.heap.size ≤ w4.heap.size) := hb4.size
  obtain ⟨A4, c4, e4, hc4, _⟩ := own_form ho4
  subst e4
  have HK4 := Lib.hid (IsPart.head HP4.out (k := body.length) (by omega))
  clear ho4 hb4 hll
  have k1 : ∀ q, (convert 53 9 (.slice A1 body.length c1)).run Try.prog (w4.drewN q) = .ok (.string (strOf mk)) (w4.drewN q) := fun q => cv_of (HP14.out.below (belowN _ _ _) (Nat.le_refl _))
  have k4 : ∀ q, (convert 53 9 (.slice A4 body.length c4)).run Try.prog (w4.drewN q) = .ok (.string (strOf mk)) (w4.drewN q) := fun q => by
    have := cv_of (HK4.out.below (belowN _ w4 q) (Nat.le_refl _))
    rw [MA.out] at this
    exact this
  have hw : IntKind.i64.wrap ((body.length : Int) + (more.length : Int)) = (body.length : Int) + (more.length : Int) := IntWalk.i64_in _ (by omega)
  have hci : (body.length : Int) ≤ (c4 : Int) := by omega
  go_wp2_with fail
  go_quiet (fail)
  clear k1 k4 hw hci
  go_wp2_with fail
  refine (C1.out _ (HB4.out.trans (belowN _ _ _))).mono ?_; rintro e w5 ⟨v5, rfl, ho5, hb5⟩
  have HB5 := Lib.hid ((HB4.out.trans (belowN _ _ _)).trans (hb5.mono HB4.out.size))
  have HB45 : Hid (Below w4.heap.size w4 w5) := (belowN _ _ _).trans hb5
  have HP5 := Lib.hid (IsPart.of_own ho5 (by rw [N1.out]; omega) X1.out)
  obtain ⟨A5, c5, e5, hc5, _⟩ := own_form ho5
  subst e5
  clear ho5 hb5
  go_wp2_with fail
  refine (C2.out _ HB5.out).mono ?_; rintro e w6 ⟨v6, rfl, ho6, hb6⟩
  have HB6 := Lib.hid (HB5.out.trans (hb6.mono HB5.out.size))
  have HB56 := Lib.hid hb6
  have HP6 := Lib.hid (IsPart.of_own ho6 (by rw [N2.out]; omega) X2.out)
  obtain ⟨A6, c6, e6, _⟩ := own_form ho6
  subst e6
  clear ho6 hb6
  go_wp2_with fail
  refine (D1.out _ _ HB6.out HP6.out).mono ?_; rintro e w7 ⟨v7, rfl, _, hb7⟩
  have HB7 := Lib.hid (HB6.out.trans (hb7.mono HB6.out.size))
  have HB67 := Lib.hid hb7
  clear hb7
  go_wp2_with fail
  refine (D2.out _ _ HB7.out ((HP6.out.below HB67.out (Nat.le_refl _)).more HB67.out.size)).mono ?_; rintro e w8 ⟨v8, rfl, _, hb8⟩
  have HB8 := Lib.hid (HB7.out.trans (hb8.mono HB7.out.size))
  have HB58 := Lib.hid (HB56.out.trans ((HB67.out.trans (hb8.mono HB67.out.size)).mono HB56.out.size))
  have HB48 := Lib.hid (HB45.out.trans (HB58.out.mono HB45.out.size))
  clear hb8
  have HK5 := Lib.hid (IsPart.head HP5.out (k := body.length) (by omega))
  have hc5i : (body.length : Int) ≤ (c5 : Int) := by omega
  have HS : Hid (∀ W', Below w8.heap.size w8 W' → Below w8.heap.size w8 W' ∧ (convert 53 9 (.slice A1 body.length c1)).run Try.prog W' = .ok (.string (strOf mk)) W' ∧ (convert 53 9 (.slice A5 body.length c5)).run Try.prog W' = .ok (.string (strOf mk)) W') := fun W' hW => by
    refine ⟨hW, cv_of ((HP14.out.below HB48.out HS4.out).below hW (Nat.le_trans HS4.out HB48.out.size)), ?_⟩
    have := cv_of ((HK5.out.below HB58.out (Nat.le_refl _)).below hW HB58.out.size)
    rw [K1.out] at this
    exact this
  go_wp2_with fail
  go_region_held3 (fun W' => Below w8.heap.size w8 W' ∧ (convert 53 9 (.slice A1 body.length c1)).run Try.prog W' = .ok (.string (strOf mk)) W' ∧ (convert 53 9 (.slice A5 body.length c5)).run Try.prog W' = .ok (.string (strOf mk)) W') (first | exact HS.out _ (Below.refl _ _).drew | exact HS.out _ HB9.out) (first
    | (go_at_call 39; refine (Known.known_any _).mono ?_; rintro e w9 ⟨rfl, hb9⟩; have HB9 : Hid (Below w8.heap.size w8 w9) := ((Below.refl _ _).drew).trans (hb9.mono (Nat.le_refl _)); clear hb9))
  go_wp2_with fail
  go_ret
  exact ⟨rfl, HB8.out.trans (HB9.out.mono HB8.out.size)⟩
end Go.Proofs.Ytegfaecbealnhab.ApartLaw
