/- SealWays: the walk. Conditions: the arguments' rows. -/
import Derived.Test.YtegfaecbealnhabL6
namespace Go.Proofs.Ytegfaecbealnhab.WaysLaw
open Go Go.RowKit
open PartsLaw (of_bytes)

set_option maxRecDepth 100000 in
set_option maxHeartbeats 1000000 in
theorem walk (key other : Nat) (num : Int) (A : Option Addr) (cap : Nat) (head : List Nat) (A2 : Option Addr) (cap2 : Nat) (body : List Nat) (w : World) (hkey : key < 2 ^ 64) (hoth : other < 2 ^ 64) (hn1 : -9223372036854775808 ≤ num) (hn2 : num ≤ 9223372036854775807) (ha : IsBytes w A cap head) (hb : IsBytes w A2 cap2 body) :
    Calls Try.prog 14 #[.int .u64 (key : Int), .int .u64 (other : Int), .int .i64 num, .slice A head.length cap, .slice A2 body.length cap2] w fun e w' => e = .returned (.bool true) ∧ Below w.heap.size w w' := by
  have Ph := Lib.hid (of_bytes ha)
  have Pb := Lib.hid (of_bytes hb)
  have HLT := Lib.hid hb.lt
  have hreach := hb.reach
  have S0 := Lib.hid (fun W => step_any key 0 W hkey (by decide))
  have S1 := Lib.hid (fun W => step_any key 1 W hkey (by decide))
  have S2 := Lib.hid (fun W => step_any other 0 W hoth (by decide))
  have S3 := Lib.hid (fun W => step_any other 1 W hoth (by decide))
  have I1 : stpN key 0 ≠ stpN key 1 := fun e => by have := stp_c hkey (by decide) (by decide) e; omega
  have I2 : stpN other 0 = stpN key 0 → other = key := fun e => stp_h hoth hkey (by decide) e
  have I3 : stpN other 1 = stpN key 1 → other = key := fun e => stp_h hoth hkey (by decide) e
  have E2 : other = key → stpN other 0 = stpN key 0 := fun e => by rw [e]
  have E3 : other = key → stpN other 1 = stpN key 1 := fun e => by rw [e]
  have la := stpN_lt key 0
  have lb := stpN_lt key 1
  obtain ⟨a, h1⟩ : ∃ t, Hid (stpN key 0 = t) := ⟨_, rfl⟩
  obtain ⟨b, h2⟩ : ∃ t, Hid (stpN key 1 = t) := ⟨_, rfl⟩
  obtain ⟨c, h3⟩ : ∃ t, Hid (stpN other 0 = t) := ⟨_, rfl⟩
  obtain ⟨d, h4⟩ : ∃ t, Hid (stpN other 1 = t) := ⟨_, rfl⟩
  rw [h1.out] at S0 I1 I2 E2 la
  rw [h2.out] at S1 I1 I3 E3 lb
  rw [h3.out] at S2 I2 E2
  rw [h4.out] at S3 I3 E3
  have J : stpN b (unN num) ≠ stpN a (unN num) := fun e => I1 (stp_h lb la (unN_lt _) e).symm
  have G1 : ((c : Int) == (a : Int)) = ((other : Int) == (key : Int)) := by
    by_cases e : other = key
    · rw [e, E2 e]; simp
    · have e' : ¬ c = a := fun x => e (I2 x)
      rw [beq_false_of_ne (by omega), beq_false_of_ne (by omega)]
  have G2 : ((d : Int) == (b : Int)) = ((other : Int) == (key : Int)) := by
    by_cases e : other = key
    · rw [e, E3 e]; simp
    · have e' : ¬ d = b := fun x => e (I3 x)
      rw [beq_false_of_ne (by omega), beq_false_of_ne (by omega)]
  have G3 : ((a : Int) != (b : Int)) = true := by simp; omega
  have G4 : ((a : Int) == (b : Int)) = false := by simp; omega
  have G5 : ¬ (a : Int) = (b : Int) := by omega
  have C := Lib.hid (close_any a num head body _ _ _ w la Ph.out Pb.out (Nat.le_refl _) (by omega))
  have D1 := Lib.hid (fun (W : World) (vx : Value) (h : Below w.heap.size w W) (hx : IsPart W W.heap.size vx (closeF a num head body)) => open_close a b num num head body _ vx _ W lb HLT.out ((Ph.out.below h (Nat.le_refl _)).more h.size) hx (Nat.le_refl _))
  have D2 := Lib.hid (fun (W : World) (vx : Value) (h : Below w.heap.size w W) (hx : IsPart W W.heap.size vx (closeF a num head body)) => open_close a a num num head body _ vx _ W la HLT.out ((Ph.out.below h (Nat.le_refl _)).more h.size) hx (Nat.le_refl _))
  rw [decide_eq_false J] at D1
  rw [decide_eq_true rfl] at D2
  have HCL := Lib.hid (closeF_lt a num head body HLT.out)
  have HCN := Lib.hid (closeF_len a num head body)
  clear hkey hoth hn1 hn2 ha hb I1 I2 I3 E2 E3 la lb h1 h2 h3 h4 J
  go_enter Try.func14, Try.ntmps14
  go_wp2_with fail
  refine (S0.out _).mono ?_; rintro e w' ⟨rfl, rfl⟩
  go_wp2_with fail
  refine (S1.out _).mono ?_; rintro e w' ⟨rfl, rfl⟩
  go_wp2_with fail
  refine C.out.mono ?_; rintro e w1 ⟨v1, rfl, ho, hb1⟩
  have HX := Lib.hid (IsPart.of_own (l := closeF a num head body) ho (by rw [HCN.out]; omega) HCL.out)
  have HB1 := Lib.hid hb1
  clear ho hb1
  go_wp2_with fail
  refine (D1.out _ _ HB1.out HX.out).mono ?_; rintro e w2 ⟨v2, rfl, _, hb2⟩
  have HB2 := Lib.hid (HB1.out.trans (hb2.mono HB1.out.size))
  have HX2 := Lib.hid ((HX.out.below hb2 (Nat.le_refl _)).more hb2.size)
  clear hb2
  go_wp2_with fail
  refine (D2.out _ _ HB2.out HX2.out).mono ?_; rintro e w3 ⟨v3, rfl, _, hb3⟩
  have HB3 := Lib.hid (HB2.out.trans (hb3.mono HB2.out.size))
  clear hb3
  go_wp2_with fail
  refine (Known.known_any _).mono ?_; rintro e w4 ⟨rfl, hb4⟩
  have HB4 := Lib.hid (HB3.out.trans (hb4.mono HB3.out.size))
  clear hb4
  go_wp2_with fail
  refine (S2.out _).mono ?_; rintro e w' ⟨rfl, rfl⟩
  go_wp2_with fail
  refine (S3.out _).mono ?_; rintro e w' ⟨rfl, rfl⟩
  go_wp2_with fail
  go_ret
  exact ⟨rfl, HB4.out⟩
end Go.Proofs.Ytegfaecbealnhab.WaysLaw
