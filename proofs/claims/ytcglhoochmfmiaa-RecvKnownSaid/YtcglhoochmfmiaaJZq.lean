/- RecvKnown: the walk over the contracts (printed by gen/recvk.py). Conditions: none. -/
import Derived.Test.YtcglhoochmfmiaaJZn
set_option linter.unusedSimpArgs false
set_option linter.unusedVariables false

namespace Go.Proofs.Ytcglhoochmfmiaa.Re
open Go Go.RowKit Go.Proofs.Ytcglhoochmfmiaa Go.Proofs.Ytcglhoochmfmiaa.Sp Go.Proofs.Ytcglhoochmfmiaa.Se Go.Maps

section
variable {W w w' : World} {p n : Nat} {F F2 F2' : List Nat} {s : Rs} {A : Option Addr} {bs : List Nat}
theorem over_hr (h : HR W w p n F s) : Calls Try.prog 42 #[.pointer (some ⟨p, 0, none⟩)] w fun e w' => e = .returned (.int .i64 (overS s)) ∧ ∃ q, w' = w.drewN q := by
  obtain ⟨v0, v4, h1⟩ := h.st
  exact over_rc h1
theorem ended_hr (h : HR W w p n F s) : Calls Try.prog 43 #[.pointer (some ⟨p, 0, none⟩)] w fun e w' => e = .returned (.bool s.en) ∧ w' = w := by
  obtain ⟨v0, v4, h1⟩ := h.st
  exact ended_rc h1
theorem lit_row2 (h : HR W w p n F s) (cur : Array Value) (bs : List Nat) (hc : cur.toList = bv bs) (m : Nat) : ∃ w', (convert 30 30 (.slice (some ⟨w.heap.size, 0, none⟩) m m)).run Try.prog (w.alloc (.cells cur 5)) = .ok (.slice (some ⟨w.heap.size, 0, none⟩) m m) w' ∧ Below w.heap.size w w' ∧ RowO w' F (some ⟨w.heap.size, 0, none⟩) bs := by
  obtain ⟨w', h1, h2, h3⟩ := lit_bytes w cur bs hc m
  exact ⟨w', h1, h2, h3, fun _ a ea hk => by cases ea; exact Nat.lt_irrefl _ (h.lt _ hk)⟩
/-- A stream with three rows beside it, while another one (F2) is called. -/
structure Both (W w : World) (p n : Nat) (F : List Nat) (s : Rs) (A1 A2 A3 : Option Addr) (F2 : List Nat) : Prop where
  ks : HR W w p n F s
  k1 : RowO w F A1 [97, 98, 99]
  k2 : RowO w F A2 [100]
  k3 : RowO w F A3 [101]
  dis : ∀ k ∈ F, k ∉ F2
  r1 : RowO w F2 A1 [97, 98, 99]
  r2 : RowO w F2 A2 [100]
  r3 : RowO w F2 A3 [101]
theorem Both.go {A1 A2 A3 : Option Addr} (h : Both W w p n F s A1 A2 A3 F2) (hg : Goes w w' F2 F2') (hl : ∀ k ∈ F2, W.heap.size ≤ k) : Both W w' p n F s A1 A2 A3 F2' := by
  obtain ⟨⟨⟨v0, v4, h1⟩, h2, h3⟩, k1, k2, k3, hd, r1, r2, r3⟩ := h
  refine ⟨⟨⟨v0, v4, h1.kept hg.1 hd⟩, h2, h3.trans (hg.1.below h3.size hl)⟩, ⟨(r1.go hg).1, k1.2⟩, ⟨(r2.go hg).1, k2.2⟩, ⟨(r3.go hg).1, k3.2⟩, fun k hk hm => ?_, r1.go hg, r2.go hg, r3.go hg⟩
  rcases hg.2 k hm with hx | hx
  · exact hd k hk hx
  · have := h1.hF k hk; omega
theorem RowO.fresh (h : RowO w F A bs) (hb : Below w.heap.size w w') (hF : ∀ k ∈ F2, w.heap.size ≤ k) : RowO w' F2 A bs := by
  refine ⟨(h.1.below hb (Nat.le_refl _)).more hb.size, fun h0 a ea hm => ?_⟩
  obtain ⟨b, o, e, hlt, _⟩ := h.1.2 h0
  rw [ea] at e
  cases e
  have : w.heap.size ≤ b := hF _ hm
  omega
theorem Both.ks2 {A1 A2 A3 : Option Addr} {F3 : List Nat} (h : Both W w p n F s A1 A2 A3 F3) (hb : Below w.heap.size w w') (hF : ∀ k ∈ F2, w.heap.size ≤ k) : Both W w' p n F s A1 A2 A3 F2 :=
  ⟨h.ks.below hb, h.k1.go (Goes.below F hb), h.k2.go (Goes.below F hb), h.k3.go (Goes.below F hb), fun k hk hm => by have := h.ks.lt k hk; have := hF k hm; omega, h.k1.fresh hb hF, h.k2.fresh hb hF, h.k3.fresh hb hF⟩
end
def q0 (K : Nat → Nat) : Rs := ⟨[], 400, 0, 400, 0, 0, false, false, 0, 0, K⟩
theorem q0_num (K : Nat → Nat) : RsNum (q0 K) := num_of (show (0 : Int) ≤ 0 ∧ (0 : Int) ≤ 4611686018427387903 by decide) (show (0 : Int) ≤ 0 ∧ (0 : Int) ≤ 0 by decide) (show 0 ≤ 8796093022208 by decide)
theorem q0_rd (K : Nat → Nat) : 0 ≤ (q0 K).rd ∧ (q0 K).rd ≤ 1152921504606846976 := show (0 : Int) ≤ 0 ∧ (0 : Int) ≤ 1152921504606846976 by decide
def q1 (K : Nat → Nat) : Rs := ⟨[0, 6], 400, 0, 400, 6, 0, false, false, 0, 0, K⟩
theorem q1_num (K : Nat → Nat) : RsNum (q1 K) := num_of (show (0 : Int) ≤ 6 ∧ (6 : Int) ≤ 4611686018427387903 by decide) (show (0 : Int) ≤ 0 ∧ (0 : Int) ≤ 6 by decide) (show 2 ≤ 8796093022208 by decide)
theorem q1_rd (K : Nat → Nat) : 0 ≤ (q1 K).rd ∧ (q1 K).rd ≤ 1152921504606846976 := show (0 : Int) ≤ 0 ∧ (0 : Int) ≤ 1152921504606846976 by decide
def q2 (K : Nat → Nat) : Rs := ⟨[0, 8], 400, 0, 400, 8, 0, false, false, 0, 0, K⟩
theorem q2_num (K : Nat → Nat) : RsNum (q2 K) := num_of (show (0 : Int) ≤ 8 ∧ (8 : Int) ≤ 4611686018427387903 by decide) (show (0 : Int) ≤ 0 ∧ (0 : Int) ≤ 8 by decide) (show 2 ≤ 8796093022208 by decide)
theorem q2_rd (K : Nat → Nat) : 0 ≤ (q2 K).rd ∧ (q2 K).rd ≤ 1152921504606846976 := show (0 : Int) ≤ 0 ∧ (0 : Int) ≤ 1152921504606846976 by decide
def q3 (K : Nat → Nat) : Rs := ⟨[0, 8], 400, 3, 400, 8, 3, false, false, 0, 0, K⟩
theorem q3_num (K : Nat → Nat) : RsNum (q3 K) := num_of (show (0 : Int) ≤ 8 ∧ (8 : Int) ≤ 4611686018427387903 by decide) (show (0 : Int) ≤ 3 ∧ (3 : Int) ≤ 8 by decide) (show 2 ≤ 8796093022208 by decide)
theorem q3_rd (K : Nat → Nat) : 0 ≤ (q3 K).rd ∧ (q3 K).rd ≤ 1152921504606846976 := show (0 : Int) ≤ 3 ∧ (3 : Int) ≤ 1152921504606846976 by decide
def q4 (K : Nat → Nat) : Rs := ⟨[0, 8], 400, 3, 400, 30, 3, true, true, 9, 5, K⟩
theorem q4_num (K : Nat → Nat) : RsNum (q4 K) := num_of (show (0 : Int) ≤ 30 ∧ (30 : Int) ≤ 4611686018427387903 by decide) (show (0 : Int) ≤ 3 ∧ (3 : Int) ≤ 30 by decide) (show 2 ≤ 8796093022208 by decide)
theorem q4_rd (K : Nat → Nat) : 0 ≤ (q4 K).rd ∧ (q4 K).rd ≤ 1152921504606846976 := show (0 : Int) ≤ 3 ∧ (3 : Int) ≤ 1152921504606846976 by decide
def q5 (K : Nat → Nat) : Rs := ⟨[0, 8, 28, 30], 400, 3, 400, 30, 3, true, true, 9, 5, K⟩
theorem q5_num (K : Nat → Nat) : RsNum (q5 K) := num_of (show (0 : Int) ≤ 30 ∧ (30 : Int) ≤ 4611686018427387903 by decide) (show (0 : Int) ≤ 3 ∧ (3 : Int) ≤ 30 by decide) (show 4 ≤ 8796093022208 by decide)
theorem q5_rd (K : Nat → Nat) : 0 ≤ (q5 K).rd ∧ (q5 K).rd ≤ 1152921504606846976 := show (0 : Int) ≤ 3 ∧ (3 : Int) ≤ 1152921504606846976 by decide
def q6 (K : Nat → Nat) : Rs := ⟨[0, 8, 28, 30], 400, 4, 400, 30, 4, true, true, 9, 5, K⟩
theorem q6_num (K : Nat → Nat) : RsNum (q6 K) := num_of (show (0 : Int) ≤ 30 ∧ (30 : Int) ≤ 4611686018427387903 by decide) (show (0 : Int) ≤ 4 ∧ (4 : Int) ≤ 30 by decide) (show 4 ≤ 8796093022208 by decide)
theorem q6_rd (K : Nat → Nat) : 0 ≤ (q6 K).rd ∧ (q6 K).rd ≤ 1152921504606846976 := show (0 : Int) ≤ 4 ∧ (4 : Int) ≤ 1152921504606846976 by decide
def q7 (K : Nat → Nat) : Rs := ⟨[0, 8, 28, 30], 400, 5, 400, 30, 5, true, true, 9, 5, K⟩
theorem q7_num (K : Nat → Nat) : RsNum (q7 K) := num_of (show (0 : Int) ≤ 30 ∧ (30 : Int) ≤ 4611686018427387903 by decide) (show (0 : Int) ≤ 5 ∧ (5 : Int) ≤ 30 by decide) (show 4 ≤ 8796093022208 by decide)
theorem q7_rd (K : Nat → Nat) : 0 ≤ (q7 K).rd ∧ (q7 K).rd ≤ 1152921504606846976 := show (0 : Int) ≤ 5 ∧ (5 : Int) ≤ 1152921504606846976 by decide
def q8 (K : Nat → Nat) : Rs := ⟨[0, 8, 28, 30], 400, 5, 400, 30, 5, true, true, 9, 2, K⟩
theorem q8_num (K : Nat → Nat) : RsNum (q8 K) := num_of (show (0 : Int) ≤ 30 ∧ (30 : Int) ≤ 4611686018427387903 by decide) (show (0 : Int) ≤ 5 ∧ (5 : Int) ≤ 30 by decide) (show 4 ≤ 8796093022208 by decide)
theorem q8_rd (K : Nat → Nat) : 0 ≤ (q8 K).rd ∧ (q8 K).rd ≤ 1152921504606846976 := show (0 : Int) ≤ 5 ∧ (5 : Int) ≤ 1152921504606846976 by decide
def t1 (K : Nat → Nat) : Rs := ⟨[], 400, 0, 400, 0, 0, true, false, 0, 0, K⟩
theorem t1_num (K : Nat → Nat) : RsNum (t1 K) := num_of (show (0 : Int) ≤ 0 ∧ (0 : Int) ≤ 4611686018427387903 by decide) (show (0 : Int) ≤ 0 ∧ (0 : Int) ≤ 0 by decide) (show 0 ≤ 8796093022208 by decide)
theorem t1_rd (K : Nat → Nat) : 0 ≤ (t1 K).rd ∧ (t1 K).rd ≤ 1152921504606846976 := show (0 : Int) ≤ 0 ∧ (0 : Int) ≤ 1152921504606846976 by decide
def u2 (K : Nat → Nat) : Rs := ⟨[0, 6], 400, 6, 400, 6, 6, false, false, 0, 0, K⟩
theorem u2_num (K : Nat → Nat) : RsNum (u2 K) := num_of (show (0 : Int) ≤ 6 ∧ (6 : Int) ≤ 4611686018427387903 by decide) (show (0 : Int) ≤ 6 ∧ (6 : Int) ≤ 6 by decide) (show 2 ≤ 8796093022208 by decide)
theorem u2_rd (K : Nat → Nat) : 0 ≤ (u2 K).rd ∧ (u2 K).rd ≤ 1152921504606846976 := show (0 : Int) ≤ 6 ∧ (6 : Int) ≤ 1152921504606846976 by decide
def u3 (K : Nat → Nat) : Rs := ⟨[0, 6], 400, 6, 400, 9, 6, true, true, 3, 2, K⟩
theorem u3_num (K : Nat → Nat) : RsNum (u3 K) := num_of (show (0 : Int) ≤ 9 ∧ (9 : Int) ≤ 4611686018427387903 by decide) (show (0 : Int) ≤ 6 ∧ (6 : Int) ≤ 9 by decide) (show 2 ≤ 8796093022208 by decide)
theorem u3_rd (K : Nat → Nat) : 0 ≤ (u3 K).rd ∧ (u3 K).rd ≤ 1152921504606846976 := show (0 : Int) ≤ 6 ∧ (6 : Int) ≤ 1152921504606846976 by decide
theorem e1 : putS (q0 (fun _ => 0)) 400 false [1] = (0, 7, q0 (fun _ => 0)) := by kernel_rfl
theorem e2 : putS (q0 (fun _ => 0)) (-1) false [] = (0, 1, q0 (fun _ => 0)) := by kernel_rfl
theorem e3 : putS (q0 (fun _ => 0)) 0 false [97, 98, 99, 100, 101, 102] = (6, 0, q1 (mixK (fun _ => 0) [0, 6] 0 [97, 98, 99, 100, 101, 102])) := by kernel_rfl
theorem e4 (K : Nat → Nat) : putS (q1 K) 2 true [120] = (0, 8, q1 K) := by kernel_rfl
theorem e5 : putS (q1 (mixK (fun _ => 0) [0, 6] 0 [97, 98, 99, 100, 101, 102])) 0 false [65, 66, 67, 68, 69, 70, 71, 72] = (2, 0, q2 (mixK (mixK (fun _ => 0) [0, 6] 0 [97, 98, 99, 100, 101, 102]) [6, 8] 0 [65, 66, 67, 68, 69, 70, 71, 72])) := by kernel_rfl
theorem e6 (K : Nat → Nat) : nS (q2 K) 3 = ((3 : Nat) : Int) := by kernel_rfl
theorem e6o (K : Nat → Nat) : overS (q3 K) = 0 := by kernel_rfl
theorem e6t (K K2 : Nat → Nat) : takenS (q2 K) ((3 : Nat) : Int) K2 = q3 K2 := by kernel_rfl
theorem e7 (K : Nat → Nat) : breakS (q3 K) 9 30 5 = (22, 0, q4 K) := by kernel_rfl
theorem e8 (K : Nat → Nat) : breakS (q4 K) 9 31 5 = (0, 8, q4 K) := by kernel_rfl
theorem e9 (K : Nat → Nat) : putS (q4 K) 29 false [122, 122] = (0, 8, q4 K) := by kernel_rfl
theorem e10 (K : Nat → Nat) : putS (q4 K) 28 true [122, 122] = (0, 0, q5 (mixK K [28, 30] 28 [122, 122])) := by kernel_rfl
theorem e11 (K : Nat → Nat) : nS (q5 K) 1 = ((1 : Nat) : Int) := by kernel_rfl
theorem e11o (K : Nat → Nat) : overS (q6 K) = 0 := by kernel_rfl
theorem e11t (K K2 : Nat → Nat) : takenS (q5 K) ((1 : Nat) : Int) K2 = q6 K2 := by kernel_rfl
theorem e12 (K : Nat → Nat) : nS (q6 K) 99 = ((1 : Nat) : Int) := by kernel_rfl
theorem e12o (K : Nat → Nat) : overS (q7 K) = 2 := by kernel_rfl
theorem e12t (K K2 : Nat → Nat) : takenS (q6 K) ((1 : Nat) : Int) K2 = q7 K2 := by kernel_rfl
theorem e13 (K : Nat → Nat) : breakS (q7 K) 4 30 2 = (0, 0, q8 K) := by kernel_rfl
theorem e14 (K : Nat → Nat) : breakS (q8 K) 9 30 31 = (0, 1, q8 K) := by kernel_rfl
theorem e15 (K : Nat → Nat) : breakS (q8 K) 9 900 1 = (0, 7, q8 K) := by kernel_rfl
theorem e16 : putS (q0 (fun _ => 0)) 0 true [] = (0, 0, t1 (mixK (fun _ => 0) [] 0 [])) := by kernel_rfl
theorem e17 (K : Nat → Nat) : breakS (t1 K) 5 0 0 = (0, 0, t1 K) := by kernel_rfl
theorem e18 (K : Nat → Nat) : nS (t1 K) 0 = ((0 : Nat) : Int) := by kernel_rfl
theorem e18o (K : Nat → Nat) : overS (t1 K) = 1 := by kernel_rfl
theorem e18t (K K2 : Nat → Nat) : takenS (t1 K) ((0 : Nat) : Int) K2 = t1 K2 := by kernel_rfl
theorem e19 (K : Nat → Nat) : nS (q1 K) 6 = ((6 : Nat) : Int) := by kernel_rfl
theorem e19o (K : Nat → Nat) : overS (u2 K) = 0 := by kernel_rfl
theorem e19t (K K2 : Nat → Nat) : takenS (q1 K) ((6 : Nat) : Int) K2 = u2 K2 := by kernel_rfl
theorem e20 (K : Nat → Nat) : breakS (u2 K) 3 9 2 = (3, 0, u3 K) := by kernel_rfl
theorem e21 (K : Nat → Nat) : nS (u3 K) 9 = ((0 : Nat) : Int) := by kernel_rfl
theorem e21o (K : Nat → Nat) : overS (u3 K) = 2 := by kernel_rfl
theorem e21t (K K2 : Nat → Nat) : takenS (u3 K) ((0 : Nat) : Int) K2 = u3 K2 := by kernel_rfl
theorem s1 : seqK (q2 (mixK (mixK (fun _ => 0) [0, 6] 0 [97, 98, 99, 100, 101, 102]) [6, 8] 0 [65, 66, 67, 68, 69, 70, 71, 72])).K 0 3 = [97, 98, 99] := by kernel_rfl
theorem b3 : (mixK (mixK (fun _ => 0) [0, 6] 0 [97, 98, 99, 100, 101, 102]) [6, 8] 0 [65, 66, 67, 68, 69, 70, 71, 72]) 3 = 100 := by kernel_rfl
theorem b4 : (mixK (mixK (fun _ => 0) [0, 6] 0 [97, 98, 99, 100, 101, 102]) [6, 8] 0 [65, 66, 67, 68, 69, 70, 71, 72]) 4 = 101 := by kernel_rfl
set_option maxRecDepth 100000 in
set_option maxHeartbeats 16000000 in
theorem knownR_walk (w : World) :
    Calls Try.prog 4 #[] w fun e w' => e = .returned (.bool true) ∧ Below w.heap.size w w' := by
  have HNEW := Lib.hid (new_hr w 3)
  have HKN := Lib.hid known_any
  go_enter Try.func4, Try.ntmps4
  go_wp2_with fail
  refine HNEW.out.mono ?_
  rintro e w1 ⟨p, F2, rfl, hh, _⟩
  have H1 := Lib.hid hh
  clear hh HNEW
  go_wp2_with fail
  refine (HKN.out _).mono ?_
  rintro e w2 ⟨rfl, hb⟩
  have H2 : Hid (HR w w2 p 0 F2 (q0 (fun _ => 0))) := H1.out.below hb
  clear hb H1 HKN
  have hb11 : Below w2.heap.size w2 (w2.alloc (.cells #[.int .u8 1] 5)) := (Below.refl _ _).alloc (Nat.le_refl _) _
  have HL11 := Lib.hid (H2.out.below hb11)
  have HP : Hid (Calls Try.prog 39 #[.pointer (some ⟨p, 0, none⟩), .int .i64 400, .bool false, .slice (some ⟨w2.heap.size, 0, none⟩) 1 1] (w2.alloc (.cells #[.int .u8 1] 5)) fun e w' => e = .returned (.tuple #[.int .i64 0, .int .i64 7]) ∧ ∃ F', HR w w' p 1 F' (q0 (fun _ => 0)) ∧ Goes (w2.alloc (.cells #[.int .u8 1] 5)) w' F2 F') := by
    refine (put_hr (bs := [1]) HL11.out (q0_num _) 400 false 1 (by decide) (RowO.new H2.out #[.int .u8 1] 5 rfl) (by decide) (by decide) (by decide)).mono ?_
    rintro e w' ⟨rfl, F', h1, h2⟩
    rw [e1] at h1 ⊢
    exact ⟨rfl, F', h1, h2⟩
  go_wp2_with fail
  refine HP.out.mono ?_
  rintro e w11 ⟨rfl, F11, hh, hg⟩
  have H11 := Lib.hid hh
  clear hh hg HP hb11 HL11 H2
  have HP : Hid (Calls Try.prog 39 #[.pointer (some ⟨p, 0, none⟩), .int .i64 (-1), .bool false, .slice none 0 0] w11 fun e w' => e = .returned (.tuple #[.int .i64 0, .int .i64 1]) ∧ ∃ F', HR w w' p 1 F' (q0 (fun _ => 0)) ∧ Goes w11 w' F11 F') := by
    refine (put_hr (bs := []) (A := none) H11.out (q0_num _) (-1) false 0 (by decide) (RowO.nil _ _ _) (by decide) (by decide) (by decide)).mono ?_
    rintro e w' ⟨rfl, F', h1, h2⟩
    rw [e2] at h1 ⊢
    exact ⟨rfl, F', h1, h2⟩
  go_wp2_with fail
  refine HP.out.mono ?_
  rintro e w12 ⟨rfl, F12, hh, hg⟩
  have H12 := Lib.hid hh
  clear hh hg HP H11
  obtain ⟨wl13, hcv, hb13, hro13⟩ := lit_row2 H12.out #[.int .u8 97, .int .u8 98, .int .u8 99, .int .u8 100, .int .u8 101, .int .u8 102] [97, 98, 99, 100, 101, 102] rfl 6
  have HL13 := Lib.hid (H12.out.below hb13)
  have HP : Hid (Calls Try.prog 39 #[.pointer (some ⟨p, 0, none⟩), .int .i64 0, .bool false, .slice (some ⟨w12.heap.size, 0, none⟩) 6 6] wl13 fun e w' => e = .returned (.tuple #[.int .i64 6, .int .i64 0]) ∧ ∃ F', HR w w' p 7 F' (q1 (mixK (fun _ => 0) [0, 6] 0 [97, 98, 99, 100, 101, 102])) ∧ Goes wl13 w' F12 F') := by
    refine (put_hr (bs := [97, 98, 99, 100, 101, 102]) HL13.out (q0_num _) 0 false 6 (by decide) hro13 (by decide) (by decide) (by decide)).mono ?_
    rintro e w' ⟨rfl, F', h1, h2⟩
    rw [e3] at h1 ⊢
    exact ⟨rfl, F', h1, h2⟩
  go_wp2_with fail
  refine HP.out.mono ?_
  rintro e w13 ⟨rfl, F13, hh, hg⟩
  have H13 := Lib.hid hh
  clear hh hg HP hcv hb13 hro13 HL13 H12
  obtain ⟨wl14, hcv, hb14, hro14⟩ := lit_row2 H13.out #[.int .u8 120] [120] rfl 1
  have HL14 := Lib.hid (H13.out.below hb14)
  have HP : Hid (Calls Try.prog 39 #[.pointer (some ⟨p, 0, none⟩), .int .i64 2, .bool true, .slice (some ⟨w13.heap.size, 0, none⟩) 1 1] wl14 fun e w' => e = .returned (.tuple #[.int .i64 0, .int .i64 8]) ∧ ∃ F', HR w w' p 8 F' (q1 (mixK (fun _ => 0) [0, 6] 0 [97, 98, 99, 100, 101, 102])) ∧ Goes wl14 w' F13 F') := by
    refine (put_hr (bs := [120]) HL14.out (q1_num _) 2 true 1 (by decide) hro14 (by decide) (by decide) (by decide)).mono ?_
    rintro e w' ⟨rfl, F', h1, h2⟩
    rw [e4] at h1 ⊢
    exact ⟨rfl, F', h1, h2⟩
  go_wp2_with fail
  refine HP.out.mono ?_
  rintro e w14 ⟨rfl, F14, hh, hg⟩
  have H14 := Lib.hid hh
  clear hh hg HP hcv hb14 hro14 HL14 H13
  obtain ⟨wl15, hcv, hb15, hro15⟩ := lit_row2 H14.out #[.int .u8 65, .int .u8 66, .int .u8 67, .int .u8 68, .int .u8 69, .int .u8 70, .int .u8 71, .int .u8 72] [65, 66, 67, 68, 69, 70, 71, 72] rfl 8
  have HL15 := Lib.hid (H14.out.below hb15)
  have HP : Hid (Calls Try.prog 39 #[.pointer (some ⟨p, 0, none⟩), .int .i64 0, .bool false, .slice (some ⟨w14.heap.size, 0, none⟩) 8 8] wl15 fun e w' => e = .returned (.tuple #[.int .i64 2, .int .i64 0]) ∧ ∃ F', HR w w' p 16 F' (q2 (mixK (mixK (fun _ => 0) [0, 6] 0 [97, 98, 99, 100, 101, 102]) [6, 8] 0 [65, 66, 67, 68, 69, 70, 71, 72])) ∧ Goes wl15 w' F14 F') := by
    refine (put_hr (bs := [65, 66, 67, 68, 69, 70, 71, 72]) HL15.out (q1_num _) 0 false 8 (by decide) hro15 (by decide) (by decide) (by decide)).mono ?_
    rintro e w' ⟨rfl, F', h1, h2⟩
    rw [e5] at h1 ⊢
    exact ⟨rfl, F', h1, h2⟩
  go_wp2_with fail
  refine HP.out.mono ?_
  rintro e w15 ⟨rfl, F15, hh, hg⟩
  have H15 := Lib.hid hh
  clear hh hg HP hcv hb15 hro15 HL15 H14
  have HP := Lib.hid (take_hr H15.out (q2_num _) (q2_rd _) 3 3 0 (e6 _) rfl)
  go_wp2_with fail
  refine HP.out.mono ?_
  rintro e w16 ⟨A16, c16, K16, F16, rfl, hh, hg, hcc, hro, hKK⟩
  rw [e6t _ _] at hh ⊢
  rw [e6o _]
  have H16 := Lib.hid hh
  have hsq := s1
  rw [hsq] at hro
  have R1 : Hid (RowO w16 F16 A16 [97, 98, 99]) := hro
  clear hsq
  have k3 : Hid (K16 3 = 100) := (hKK 3 (by decide)).trans b3
  have k4 : Hid (K16 4 = 101) := (hKK 4 (by decide)).trans b4
  clear hh hg hcc hro hKK HP H15
  have HP : Hid (Calls Try.prog 41 #[.pointer (some ⟨p, 0, none⟩), .int .i64 9, .int .i64 30, .int .i64 5] w16 fun e w' => e = .returned (.tuple #[.int .i64 22, .int .i64 0]) ∧ ∃ F', HR w w' p 16 F' (q4 K16) ∧ Goes w16 w' F16 F') := by
    refine (break_hr H16.out (q3_num _) 9 30 5).mono ?_
    rintro e w' ⟨rfl, F', h1, h2⟩
    rw [e7] at h1 ⊢
    exact ⟨rfl, F', h1, h2⟩
  go_wp2_with fail
  refine HP.out.mono ?_
  rintro e w17 ⟨rfl, F17, hh, hg⟩
  have H17 := Lib.hid hh
  have R1 := Lib.hid (R1.out.go hg)
  clear hh hg HP H16
  have HP : Hid (Calls Try.prog 41 #[.pointer (some ⟨p, 0, none⟩), .int .i64 9, .int .i64 31, .int .i64 5] w17 fun e w' => e = .returned (.tuple #[.int .i64 0, .int .i64 8]) ∧ ∃ F', HR w w' p 16 F' (q4 K16) ∧ Goes w17 w' F17 F') := by
    refine (break_hr H17.out (q4_num _) 9 31 5).mono ?_
    rintro e w' ⟨rfl, F', h1, h2⟩
    rw [e8] at h1 ⊢
    exact ⟨rfl, F', h1, h2⟩
  go_wp2_with fail
  refine HP.out.mono ?_
  rintro e w18 ⟨rfl, F18, hh, hg⟩
  have H18 := Lib.hid hh
  have R1 := Lib.hid (R1.out.go hg)
  clear hh hg HP H17
  obtain ⟨wl19, hcv, hb19, hro19⟩ := lit_row2 H18.out #[.int .u8 122, .int .u8 122] [122, 122] rfl 2
  have HL19 := Lib.hid (H18.out.below hb19)
  have R1 := Lib.hid (R1.out.go (Goes.below F18 hb19))
  have HP : Hid (Calls Try.prog 39 #[.pointer (some ⟨p, 0, none⟩), .int .i64 29, .bool false, .slice (some ⟨w18.heap.size, 0, none⟩) 2 2] wl19 fun e w' => e = .returned (.tuple #[.int .i64 0, .int .i64 8]) ∧ ∃ F', HR w w' p 18 F' (q4 K16) ∧ Goes wl19 w' F18 F') := by
    refine (put_hr (bs := [122, 122]) HL19.out (q4_num _) 29 false 2 (by decide) hro19 (by decide) (by decide) (by decide)).mono ?_
    rintro e w' ⟨rfl, F', h1, h2⟩
    rw [e9] at h1 ⊢
    exact ⟨rfl, F', h1, h2⟩
  go_wp2_with fail
  refine HP.out.mono ?_
  rintro e w19 ⟨rfl, F19, hh, hg⟩
  have H19 := Lib.hid hh
  have R1 := Lib.hid (R1.out.go hg)
  clear hh hg HP hcv hb19 hro19 HL19 H18
  obtain ⟨wl20, hcv, hb20, hro20⟩ := lit_row2 H19.out #[.int .u8 122, .int .u8 122] [122, 122] rfl 2
  have HL20 := Lib.hid (H19.out.below hb20)
  have R1 := Lib.hid (R1.out.go (Goes.below F19 hb20))
  have HP : Hid (Calls Try.prog 39 #[.pointer (some ⟨p, 0, none⟩), .int .i64 28, .bool true, .slice (some ⟨w19.heap.size, 0, none⟩) 2 2] wl20 fun e w' => e = .returned (.tuple #[.int .i64 0, .int .i64 0]) ∧ ∃ F', HR w w' p 20 F' (q5 (mixK K16 [28, 30] 28 [122, 122])) ∧ Goes wl20 w' F19 F') := by
    refine (put_hr (bs := [122, 122]) HL20.out (q4_num _) 28 true 2 (by decide) hro20 (by decide) (by decide) (by decide)).mono ?_
    rintro e w' ⟨rfl, F', h1, h2⟩
    rw [e10] at h1 ⊢
    exact ⟨rfl, F', h1, h2⟩
  go_wp2_with fail
  refine HP.out.mono ?_
  rintro e w20 ⟨rfl, F20, hh, hg⟩
  have H20 := Lib.hid hh
  have R1 := Lib.hid (R1.out.go hg)
  clear hh hg HP hcv hb20 hro20 HL20 H19
  have HP := Lib.hid (take_hr H20.out (q5_num _) (q5_rd _) 1 1 3 (e11 _) rfl)
  go_wp2_with fail
  refine HP.out.mono ?_
  rintro e w21 ⟨A21, c21, K21, F21, rfl, hh, hg, hcc, hro, hKK⟩
  rw [e11t _ _] at hh ⊢
  rw [e11o _]
  have H21 := Lib.hid hh
  have R1 := Lib.hid (R1.out.go hg)
  have hsq : seqK (q5 (mixK K16 [28, 30] 28 [122, 122])).K 3 1 = [100] := by
    show [(mixK K16 [28, 30] 28 [122, 122]) 3] = [100]
    rw [show (mixK K16 [28, 30] 28 [122, 122]) 3 = K16 3 from by kernel_rfl, k3.out]
  rw [hsq] at hro
  have R2 : Hid (RowO w21 F21 A21 [100]) := hro
  clear hsq
  have k4b : Hid (K21 4 = 101) := (hKK 4 (by decide)).trans ((show (mixK K16 [28, 30] 28 [122, 122]) 4 = K16 4 from by kernel_rfl).trans k4.out)
  clear hh hg hcc hro hKK HP H20
  have HP := Lib.hid (take_hr H21.out (q6_num _) (q6_rd _) 99 1 4 (e12 _) rfl)
  go_wp2_with fail
  refine HP.out.mono ?_
  rintro e w22 ⟨A22, c22, K22, F22, rfl, hh, hg, hcc, hro, hKK⟩
  rw [e12t _ _] at hh ⊢
  rw [e12o _]
  have H22 := Lib.hid hh
  have R1 := Lib.hid (R1.out.go hg)
  have R2 := Lib.hid (R2.out.go hg)
  have hsq : seqK (q6 K21).K 4 1 = [101] := by
    show [K21 4] = [101]
    rw [k4b.out]
  rw [hsq] at hro
  have R3 : Hid (RowO w22 F22 A22 [101]) := hro
  clear hsq
  clear hh hg hcc hro hKK HP H21
  have HP : Hid (Calls Try.prog 41 #[.pointer (some ⟨p, 0, none⟩), .int .i64 4, .int .i64 30, .int .i64 2] w22 fun e w' => e = .returned (.tuple #[.int .i64 0, .int .i64 0]) ∧ ∃ F', HR w w' p 20 F' (q8 K22) ∧ Goes w22 w' F22 F') := by
    refine (break_hr H22.out (q7_num _) 4 30 2).mono ?_
    rintro e w' ⟨rfl, F', h1, h2⟩
    rw [e13] at h1 ⊢
    exact ⟨rfl, F', h1, h2⟩
  go_wp2_with fail
  refine HP.out.mono ?_
  rintro e w23 ⟨rfl, F23, hh, hg⟩
  have H23 := Lib.hid hh
  have R1 := Lib.hid (R1.out.go hg)
  have R2 := Lib.hid (R2.out.go hg)
  have R3 := Lib.hid (R3.out.go hg)
  clear hh hg HP H22
  have HP : Hid (Calls Try.prog 41 #[.pointer (some ⟨p, 0, none⟩), .int .i64 9, .int .i64 30, .int .i64 31] w23 fun e w' => e = .returned (.tuple #[.int .i64 0, .int .i64 1]) ∧ ∃ F', HR w w' p 20 F' (q8 K22) ∧ Goes w23 w' F23 F') := by
    refine (break_hr H23.out (q8_num _) 9 30 31).mono ?_
    rintro e w' ⟨rfl, F', h1, h2⟩
    rw [e14] at h1 ⊢
    exact ⟨rfl, F', h1, h2⟩
  go_wp2_with fail
  refine HP.out.mono ?_
  rintro e w24 ⟨rfl, F24, hh, hg⟩
  have H24 := Lib.hid hh
  have R1 := Lib.hid (R1.out.go hg)
  have R2 := Lib.hid (R2.out.go hg)
  have R3 := Lib.hid (R3.out.go hg)
  clear hh hg HP H23
  have HP : Hid (Calls Try.prog 41 #[.pointer (some ⟨p, 0, none⟩), .int .i64 9, .int .i64 900, .int .i64 1] w24 fun e w' => e = .returned (.tuple #[.int .i64 0, .int .i64 7]) ∧ ∃ F', HR w w' p 20 F' (q8 K22) ∧ Goes w24 w' F24 F') := by
    refine (break_hr H24.out (q8_num _) 9 900 1).mono ?_
    rintro e w' ⟨rfl, F', h1, h2⟩
    rw [e15] at h1 ⊢
    exact ⟨rfl, F', h1, h2⟩
  go_wp2_with fail
  refine HP.out.mono ?_
  rintro e w25 ⟨rfl, F25, hh, hg⟩
  have H25 := Lib.hid hh
  have R1 := Lib.hid (R1.out.go hg)
  have R2 := Lib.hid (R2.out.go hg)
  have R3 := Lib.hid (R3.out.go hg)
  clear hh hg HP H24
  have HB : Hid (Both w w25 p 20 F25 (q8 K22) A16 A21 A22 []) := ⟨H25.out, R1.out, R2.out, R3.out, (fun _ _ h => by cases h), ⟨R1.out.1, fun _ _ _ h => by cases h⟩, ⟨R2.out.1, fun _ _ _ h => by cases h⟩, ⟨R3.out.1, fun _ _ _ h => by cases h⟩⟩
  clear R1 R2 R3 H25 k3 k4 k4b
  have HNEW := Lib.hid (new_hr w25 1)
  go_wp2_with fail
  refine HNEW.out.mono ?_
  rintro e w26 ⟨pt, F26, rfl, hh, hF⟩
  have H26 : Hid (HR w w26 pt 0 F26 (q0 (fun _ => 0))) := ⟨hh.st, fun k hk => Nat.le_trans HB.out.ks.low.size (hh.lo k hk), HB.out.ks.low.trans (hh.low.mono HB.out.ks.low.size)⟩
  have HB := Lib.hid (HB.out.ks2 hh.low hF)
  clear hh hF HNEW
  have HP : Hid (Calls Try.prog 39 #[.pointer (some ⟨pt, 0, none⟩), .int .i64 0, .bool true, .slice none 0 0] w26 fun e w' => e = .returned (.tuple #[.int .i64 0, .int .i64 0]) ∧ ∃ F', HR w w' pt 0 F' (t1 (mixK (fun _ => 0) [] 0 [])) ∧ Goes w26 w' F26 F') := by
    refine (put_hr (bs := []) (A := none) H26.out (q0_num _) 0 true 0 (by decide) (RowO.nil _ _ _) (by decide) (by decide) (by decide)).mono ?_
    rintro e w' ⟨rfl, F', h1, h2⟩
    rw [e16] at h1 ⊢
    exact ⟨rfl, F', h1, h2⟩
  go_wp2_with fail
  refine HP.out.mono ?_
  rintro e w27 ⟨rfl, F27, hh, hg⟩
  have H27 := Lib.hid hh
  have HB := Lib.hid (HB.out.go hg H26.out.lo)
  clear hh hg HP H26
  have HOV := Lib.hid (over_hr H27.out)
  rw [e18o _] at HOV
  go_wp2_with fail
  refine HOV.out.mono ?_
  rintro e wo ⟨rfl, qo, hwo⟩
  have hbo : Below w27.heap.size w27 wo := by rw [hwo]; exact ⟨rfl, rfl, rfl, Nat.le_refl _, fun _ _ => rfl⟩
  have HO := Lib.hid (H27.out.below hbo)
  have HB := Lib.hid (HB.out.go (Goes.below F27 hbo) H27.out.lo)
  clear hwo hbo HOV H27
  have HP : Hid (Calls Try.prog 41 #[.pointer (some ⟨pt, 0, none⟩), .int .i64 5, .int .i64 0, .int .i64 0] wo fun e w' => e = .returned (.tuple #[.int .i64 0, .int .i64 0]) ∧ ∃ F', HR w w' pt 0 F' (t1 (mixK (fun _ => 0) [] 0 [])) ∧ Goes wo w' F27 F') := by
    refine (break_hr HO.out (t1_num _) 5 0 0).mono ?_
    rintro e w' ⟨rfl, F', h1, h2⟩
    rw [e17] at h1 ⊢
    exact ⟨rfl, F', h1, h2⟩
  go_wp2_with fail
  refine HP.out.mono ?_
  rintro e w28 ⟨rfl, F28, hh, hg⟩
  have H28 := Lib.hid hh
  have HB := Lib.hid (HB.out.go hg HO.out.lo)
  clear hh hg HP HO
  have HP := Lib.hid (take_hr H28.out (t1_num _) (t1_rd _) 0 0 0 (e18 _) rfl)
  go_wp2_with fail
  refine HP.out.mono ?_
  rintro e w29 ⟨A29, c29, K29, F29, rfl, hh, hg, hcc, hro, hKK⟩
  rw [e18t _ _] at hh ⊢
  rw [e18o _]
  have H29 := Lib.hid hh
  have HB := Lib.hid (HB.out.go hg H28.out.lo)
  clear hh hg hcc hro hKK HP H28
  have HNEW := Lib.hid (new_hr w29 1)
  go_wp2_with fail
  refine HNEW.out.mono ?_
  rintro e w30 ⟨pu, F30, rfl, hh, hF⟩
  have H30 : Hid (HR w w30 pu 0 F30 (q0 (fun _ => 0))) := ⟨hh.st, fun k hk => Nat.le_trans HB.out.ks.low.size (hh.lo k hk), HB.out.ks.low.trans (hh.low.mono HB.out.ks.low.size)⟩
  have HB := Lib.hid (HB.out.ks2 hh.low hF)
  clear hh hF HNEW
  obtain ⟨wl31, hcv, hb31, hro31⟩ := lit_row2 H30.out #[.int .u8 97, .int .u8 98, .int .u8 99, .int .u8 100, .int .u8 101, .int .u8 102] [97, 98, 99, 100, 101, 102] rfl 6
  have HL31 := Lib.hid (H30.out.below hb31)
  have HB := Lib.hid (HB.out.go (Goes.below F30 hb31) H30.out.lo)
  have HP : Hid (Calls Try.prog 39 #[.pointer (some ⟨pu, 0, none⟩), .int .i64 0, .bool false, .slice (some ⟨w30.heap.size, 0, none⟩) 6 6] wl31 fun e w' => e = .returned (.tuple #[.int .i64 6, .int .i64 0]) ∧ ∃ F', HR w w' pu 6 F' (q1 (mixK (fun _ => 0) [0, 6] 0 [97, 98, 99, 100, 101, 102])) ∧ Goes wl31 w' F30 F') := by
    refine (put_hr (bs := [97, 98, 99, 100, 101, 102]) HL31.out (q0_num _) 0 false 6 (by decide) hro31 (by decide) (by decide) (by decide)).mono ?_
    rintro e w' ⟨rfl, F', h1, h2⟩
    rw [e3] at h1 ⊢
    exact ⟨rfl, F', h1, h2⟩
  go_wp2_with fail
  refine HP.out.mono ?_
  rintro e w31 ⟨rfl, F31, hh, hg⟩
  have H31 := Lib.hid hh
  have HB := Lib.hid (HB.out.go hg HL31.out.lo)
  clear hh hg HP hcv hb31 hro31 HL31 H30
  have HP := Lib.hid (take_hr H31.out (q1_num _) (q1_rd _) 6 6 0 (e19 _) rfl)
  go_wp2_with fail
  refine HP.out.mono ?_
  rintro e w32 ⟨A32, c32, K32, F32, rfl, hh, hg, hcc, hro, hKK⟩
  rw [e19t _ _] at hh ⊢
  rw [e19o _]
  have H32 := Lib.hid hh
  have HB := Lib.hid (HB.out.go hg H31.out.lo)
  clear hh hg hcc hro hKK HP H31
  have HP : Hid (Calls Try.prog 41 #[.pointer (some ⟨pu, 0, none⟩), .int .i64 3, .int .i64 9, .int .i64 2] w32 fun e w' => e = .returned (.tuple #[.int .i64 3, .int .i64 0]) ∧ ∃ F', HR w w' pu 6 F' (u3 K32) ∧ Goes w32 w' F32 F') := by
    refine (break_hr H32.out (u2_num _) 3 9 2).mono ?_
    rintro e w' ⟨rfl, F', h1, h2⟩
    rw [e20] at h1 ⊢
    exact ⟨rfl, F', h1, h2⟩
  go_wp2_with fail
  refine HP.out.mono ?_
  rintro e w33 ⟨rfl, F33, hh, hg⟩
  have H33 := Lib.hid hh
  have HB := Lib.hid (HB.out.go hg H32.out.lo)
  clear hh hg HP H32
  have HP := Lib.hid (take_hr H33.out (u3_num _) (u3_rd _) 9 0 6 (e21 _) rfl)
  go_wp2_with fail
  refine HP.out.mono ?_
  rintro e w34 ⟨A34, c34, K34, F34, rfl, hh, hg, hcc, hro, hKK⟩
  rw [e21t _ _] at hh ⊢
  rw [e21o _]
  have H34 := Lib.hid hh
  have HB := Lib.hid (HB.out.go hg H33.out.lo)
  clear hh hg hcc hro hKK HP H33
  obtain ⟨hks, hr1, hr2, hr3, _⟩ := HB.out
  have HS := Lib.hid hks
  have hc1 : (convert 30 9 (.slice A16 3 c16)).run Try.prog w34 = .ok (.string ⟨#[97, 98, 99]⟩) w34 := str_hr hr1 c16
  have hc2 : (convert 30 9 (.slice A21 1 c21)).run Try.prog w34 = .ok (.string ⟨#[100]⟩) w34 := str_hr hr2 c21
  have hc3 : (convert 30 9 (.slice A22 1 c22)).run Try.prog w34 = .ok (.string ⟨#[101]⟩) w34 := str_hr hr3 c22
  have HEN := Lib.hid (ended_hr HS.out)
  have HTO := Lib.hid (top_hr HS.out)
  have HRE := Lib.hid (rest_hr HS.out (q8_num _).top (show (0 : Int) ≤ 5 ∧ (5 : Int) ≤ 4611686018427387903 by decide))
  rw [show (q8 K22).top - (q8 K22).tk = 25 from by kernel_rfl] at HRE
  rw [show (q8 K22).top = 30 from rfl] at HTO
  rw [show (q8 K22).en = true from rfl] at HEN
  clear hks hr1 hr2 hr3 HB
  go_wp2_with fail
  refine HEN.out.mono ?_
  rintro e w' ⟨rfl, hw'⟩
  have hw' := hw'.symm
  subst hw'
  go_wp2_with fail
  refine HTO.out.mono ?_
  rintro e w' ⟨rfl, hw'⟩
  have hw' := hw'.symm
  subst hw'
  go_wp2_with fail
  refine HRE.out.mono ?_
  rintro e wr1 ⟨rfl, qr1, hwr1⟩
  have HS1 : Hid (HR w wr1 p 20 F25 (q8 K22)) := by rw [hwr1]; exact HS.out.drewN _
  have HU1 : Hid (HR w wr1 pu 6 F34 (u3 K34)) := by rw [hwr1]; exact H34.out.drewN _
  clear hwr1 HRE HTO HEN
  have HOV := Lib.hid (over_hr HS1.out)
  rw [show overS (q8 K22) = 2 from by kernel_rfl] at HOV
  go_wp2_with fail
  refine HOV.out.mono ?_
  rintro e wr2 ⟨rfl, qr2, hwr2⟩
  have HU2 : Hid (HR w wr2 pu 6 F34 (u3 K34)) := by rw [hwr2]; exact HU1.out.drewN _
  clear hwr2 HOV HU1
  have HRU := Lib.hid (rest_hr HU2.out (u3_num _).top (show (0 : Int) ≤ 6 ∧ (6 : Int) ≤ 4611686018427387903 by decide))
  rw [show (u3 K34).top - (u3 K34).tk = 3 from by kernel_rfl] at HRU
  go_wp2_with fail
  refine HRU.out.mono ?_
  rintro e wr3 ⟨rfl, qr3, hwr3⟩
  have HBF : Hid (Below w.heap.size w wr3) := by rw [hwr3]; exact ⟨HU2.out.low.os, HU2.out.low.tape, HU2.out.low.output, HU2.out.low.size, HU2.out.low.block⟩
  clear hwr3 HRU
  go_wp2_with fail
  go_ret
  exact ⟨rfl, HBF.out⟩
end Go.Proofs.Ytcglhoochmfmiaa.Re
