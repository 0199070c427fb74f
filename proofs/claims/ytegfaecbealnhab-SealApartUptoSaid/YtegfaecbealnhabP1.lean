/- SealParts: the walk. Conditions: the arguments' rows. -/
import Derived.Test.YtegfaecbealnhabL5
import Derived.Test.YtegfaecbealnhabKn
namespace Go.Proofs.Ytegfaecbealnhab.PartsLaw
open Go Go.RowKit

theorem parts_one {w : World} {B : Nat} {v : Value} {a : List Nat} (T : TypeId) (hv : IsPart w B v a) (hB : B ≤ w.heap.size) : Parts (w.alloc (.cells #[v] T)) (w.heap.size + 1) (some ⟨w.heap.size, 0, none⟩) [a] := by
  have hb : Below w.heap.size w (w.alloc (.cells #[v] T)) := (Below.refl _ _).alloc (Nat.le_refl _) _
  refine ⟨[v], rd_new _ _ _ _ _ _ _ rfl (by omega) rfl rfl, fun j hj => ?_⟩
  simp only [List.length_cons, List.length_nil] at hj
  obtain rfl : j = 0 := by omega
  exact ⟨v, rfl, (hv.below hb hB).more (by omega)⟩

theorem of_bytes {W : World} {A : Option Addr} {cap : Nat} {bs : List Nat} (h : IsBytes W A cap bs) : IsPart W W.heap.size (.slice A bs.length cap) bs :=
  ⟨A, cap, rfl, h.rd, h.cap, by have := h.reach; omega, h.lt⟩
theorem part_nil (W : World) (B : Nat) : IsPart W B (.slice none 0 0) [] := ⟨none, 0, rfl, Rd.nil _ _ _, Nat.le_refl _, by simp, fun c hc => by cases hc⟩

theorem tagN_cons (h : Nat) (p : List Nat) (ps : List (List Nat)) : tagN h (p :: ps) = tagN (partN h p) ps := by unfold tagN; rw [List.foldl_cons]
theorem tagN_nil (h : Nat) : tagN h [] = h := by unfold tagN; rw [List.foldl_nil]
theorem partN_nil (h : Nat) : partN h [] = stpN h 256 := by unfold partN byN; rw [List.foldl_nil, List.length_nil, Nat.add_zero]
theorem tagN_nils (key : Nat) : tagN key [[], []] = stpN (stpN key 256) 256 := by rw [tagN_cons, tagN_cons, tagN_nil, partN_nil, partN_nil]
theorem tagN_two (key : Nat) (a b : List Nat) : tagN (tagN key [a]) [b] = tagN key [a, b] := by
  rw [tagN_cons, tagN_cons, tagN_cons, tagN_cons, tagN_nil, tagN_nil]
  exact (tagN_nil _).symm

/-- The test that two are alike, where it is known to be another test. -/
theorem beq_iff {a b : Nat} {c d : Nat} (h : a = b ↔ c = d) : (decide (a = b) == decide (c = d)) = true := by
  by_cases e : c = d
  · rw [decide_eq_true (h.2 e), decide_eq_true e]; rfl
  · rw [decide_eq_false (fun x => e (h.1 x)), decide_eq_false e]; rfl

theorem tag_at (key : Nat) (ps : List (List Nat)) (B g n : Nat) (w : World) {x : Nat} (hk : key < 2 ^ 64) (hp : Parts w B (some ⟨x, 0, none⟩) ps) (hg : g = x) (hn : ps.length = n) (hm : ps.length ≤ 140737488355328) :
    Calls Try.prog 41 #[.int .u64 (key : Int), .slice (some ⟨g, 0, none⟩) n n] w fun e w' => e = .returned (.int .u64 (tagN key ps : Int)) ∧ w = w' := by
  subst hg; subst hn
  exact tag_any key ps B _ _ w hk hp (Nat.le_refl _) hm

set_option maxRecDepth 100000 in
set_option maxHeartbeats 1000000 in
theorem walk (key g h c d : Nat) (a : List Nat) (A : Option Addr) (cap : Nat) (b : List Nat) (A2 : Option Addr) (cap2 : Nat) (w : World) (hkey : key < 2 ^ 64) (hg : g < 2 ^ 64) (hh : h < 2 ^ 64) (hc : c < 2 ^ 64) (hd : d < 2 ^ 64) (ha : IsBytes w A cap a) (hb : IsBytes w A2 cap2 b) :
    Calls Try.prog 12 #[.int .u64 (key : Int), .int .u64 (g : Int), .int .u64 (h : Int), .int .u64 (c : Int), .int .u64 (d : Int), .slice A a.length cap, .slice A2 b.length cap2] w fun e w' => e = .returned (.bool true) ∧ Below w.heap.size w w' := by
  have Pa := Lib.hid (of_bytes ha)
  have Pb := Lib.hid (of_bytes hb)
  have T1 := Lib.hid (fun (W : World) (g : Nat) (hg : g = W.heap.size) (h : Below w.heap.size w W) => tag_at key [a] _ g 1 _ hkey (parts_one 53 (Pa.out.below h (Nat.le_refl _)) h.size) hg rfl (by simp))
  have ht := tagN_lt [a] key hkey
  have T2 := Lib.hid (fun (W : World) (g : Nat) (hg : g = W.heap.size) (h : Below w.heap.size w W) => tag_at (tagN key [a]) [b] _ g 1 _ ht (parts_one 53 (Pb.out.below h (Nat.le_refl _)) h.size) hg rfl (by simp))
  have T3 := Lib.hid (fun (W : World) (g : Nat) (hg : g = W.heap.size) (h : Below w.heap.size w W) => tag_at key [a, b] _ g 2 _ hkey (parts_two 53 (Pa.out.below h (Nat.le_refl _)) (Pb.out.below h (Nat.le_refl _)) h.size) hg rfl (by simp))
  have T4 := Lib.hid (fun (W : World) (g : Nat) (hg : g = W.heap.size) => tag_at key [[], []] _ g 2 _ hkey (parts_two 53 (part_nil W W.heap.size) (part_nil W W.heap.size) (Nat.le_refl _)) hg rfl (by simp))
  have T5 := Lib.hid (fun (W : World) (h : Below (w.heap.size + 1) (w.alloc (.cells #[.slice A a.length cap, .slice A2 b.length cap2] 53)) W) => tag_any key [a, b] _ _ 2 _ hkey ((parts_two 53 Pa.out Pb.out (Nat.le_refl _)).below h (Nat.le_refl _)) (Nat.le_refl _) (by simp))
  have e1 := tagN_nils key
  have e2 := tagN_two key a b
  have S1 := Lib.hid (fun W => step_any key 256 W hkey (by decide))
  have S2 := Lib.hid (fun W => step_any (stpN key 256) 256 W (stpN_lt _ _) (by decide))
  have S3 := Lib.hid (fun W => step_any g c W hg hc)
  have S4 := Lib.hid (fun W => step_any h c W hh hc)
  have S5 := Lib.hid (fun W => step_any g d W hg hd)
  have I1 : Hid (stpN g c = stpN h c → g = h) := fun e => stp_h hg hh hc e
  have I2 : Hid (stpN g c = stpN g d → c = d) := fun e => stp_c hg hc hd e
  rw [e1] at T4
  rw [e2] at T2
  clear e1 e2 hkey hg hh hc hd ht ha hb
  obtain ⟨t1, h1⟩ : ∃ t, Hid (tagN key [a] = t) := ⟨_, rfl⟩
  obtain ⟨t2, h2⟩ : ∃ t, Hid (tagN key [a, b] = t) := ⟨_, rfl⟩
  obtain ⟨s, h3⟩ : ∃ t, Hid (stpN key 256 = t) := ⟨_, rfl⟩
  rw [h1.out] at T1 T2
  rw [h2.out] at T2 T3 T5
  rw [h3.out] at S1 S2 T4
  obtain ⟨z, h4⟩ : ∃ t, Hid (stpN s 256 = t) := ⟨_, rfl⟩
  rw [h4.out] at S2 T4
  obtain ⟨gc, h5⟩ : ∃ t, Hid (stpN g c = t) := ⟨_, rfl⟩
  obtain ⟨hc, h6⟩ : ∃ t, Hid (stpN h c = t) := ⟨_, rfl⟩
  obtain ⟨gd, h7⟩ : ∃ t, Hid (stpN g d = t) := ⟨_, rfl⟩
  rw [h5.out] at S3 I1 I2
  rw [h6.out] at S4 I1
  rw [h7.out] at S5 I2
  have G1 : ((gc : Int) == (hc : Int)) = ((g : Int) == (h : Int)) := by
    by_cases e : g = h
    · subst e
      have : gc = hc := h5.out.symm.trans h6.out
      rw [this]; simp
    · have e' : ¬ gc = hc := fun x => e (I1.out x)
      rw [beq_false_of_ne (by omega), beq_false_of_ne (by omega)]
  have G2 : ((gc : Int) == (gd : Int)) = ((c : Int) == (d : Int)) := by
    by_cases e : c = d
    · subst e
      have : gc = gd := h5.out.symm.trans h7.out
      rw [this]; simp
    · have e' : ¬ gc = gd := fun x => e (I2.out x)
      rw [beq_false_of_ne (by omega), beq_false_of_ne (by omega)]
  clear h1 h2 h3 h4 h5 h6 h7 I1 I2
  go_enter Try.func12, Try.ntmps12
  go_wp2_with fail
  refine (T1.out _ _ (by simp) ((Below.refl _ _).alloc (Nat.le_refl _) _)).mono ?_; rintro e w' ⟨rfl, rfl⟩
  have HB0 : Hid (Below (w.heap.size + 1) (w.alloc (.cells #[.slice A a.length cap, .slice A2 b.length cap2] 53)) ((w.alloc (.cells #[.slice A a.length cap, .slice A2 b.length cap2] 53)).alloc (.cells #[.slice A a.length cap] 53))) := (Below.refl _ _).alloc (by simp) _
  have HB1 : Hid (Below w.heap.size w ((w.alloc (.cells #[.slice A a.length cap, .slice A2 b.length cap2] 53)).alloc (.cells #[.slice A a.length cap] 53))) := ((Below.refl _ _).alloc (Nat.le_refl _) _).alloc (by simp) _
  go_wp2_with fail
  refine (Known.known_any _).mono ?_; rintro e w2 ⟨rfl, hb2⟩
  have HB2 := Lib.hid (HB1.out.trans (hb2.mono (by simp only [World.size_alloc]; omega)))
  have HB3 := Lib.hid (HB0.out.trans (hb2.mono (by simp only [World.size_alloc]; omega)))
  clear hb2 HB1 HB0
  go_wp2_with fail
  refine (T5.out w2 HB3.out).mono ?_; rintro e w' ⟨rfl, rfl⟩
  go_wp2_with fail
  refine (T3.out _ _ rfl HB2.out).mono ?_; rintro e w' ⟨rfl, rfl⟩
  have HB4 := Lib.hid (HB2.out.alloc HB2.out.size (.cells #[.slice A a.length cap, .slice A2 b.length cap2] 53))
  go_wp2_with fail
  refine (T2.out _ _ (by simp) HB4.out).mono ?_; rintro e w' ⟨rfl, rfl⟩
  have HB5 := Lib.hid (HB4.out.alloc HB4.out.size (.cells #[.slice A2 b.length cap2] 53))
  go_wp2_with fail
  refine (T3.out _ _ (by simp) HB5.out).mono ?_; rintro e w' ⟨rfl, rfl⟩
  have HB6 := Lib.hid (HB5.out.alloc HB5.out.size (.cells #[.slice A a.length cap, .slice A2 b.length cap2] 53))
  go_wp2_with fail
  refine (S3.out _).mono ?_; rintro e w' ⟨rfl, rfl⟩
  go_wp2_with fail
  refine (S4.out _).mono ?_; rintro e w' ⟨rfl, rfl⟩
  go_wp2_with fail
  refine (S3.out _).mono ?_; rintro e w' ⟨rfl, rfl⟩
  go_wp2_with fail
  refine (S5.out _).mono ?_; rintro e w' ⟨rfl, rfl⟩
  go_wp2_with fail
  refine (T4.out _ _ (by simp)).mono ?_; rintro e w' ⟨rfl, rfl⟩
  have HB7 := Lib.hid (HB6.out.alloc HB6.out.size (.cells #[.slice none 0 0, .slice none 0 0] 53))
  go_wp2_with fail
  refine (S1.out _).mono ?_; rintro e w' ⟨rfl, rfl⟩
  go_wp2_with fail
  refine (S2.out _).mono ?_; rintro e w' ⟨rfl, rfl⟩
  go_wp2_with fail
  go_ret
  exact ⟨rfl, HB7.out⟩

theorem walk' (key g h c d : Nat) (A : Option Addr) (cap : Nat) (a : List Nat) (A2 : Option Addr) (cap2 : Nat) (b : List Nat) (w : World) (hkey : key < 2 ^ 64) (hg : g < 2 ^ 64) (hh : h < 2 ^ 64) (hc : c < 2 ^ 64) (hd : d < 2 ^ 64) (ha : IsBytes w A cap a) (hb : IsBytes w A2 cap2 b) :
    Calls Try.prog 12 #[.int .u64 (key : Int), .int .u64 (g : Int), .int .u64 (h : Int), .int .u64 (c : Int), .int .u64 (d : Int), .slice A a.length cap, .slice A2 b.length cap2] w fun e w' => e = .returned (.bool true) ∧ Below w.heap.size w w' :=
  walk key g h c d a A cap b A2 cap2 w hkey hg hh hc hd ha hb
end Go.Proofs.Ytegfaecbealnhab.PartsLaw
