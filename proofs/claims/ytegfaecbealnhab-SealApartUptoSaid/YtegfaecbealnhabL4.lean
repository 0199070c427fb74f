/- lay, Close, Open. Conditions: as each theorem lists them. -/
import Derived.Test.YtegfaecbealnhabL3
namespace Go.Proofs.Ytegfaecbealnhab
open Go Go.RowKit

/-- A number's eight bytes, the highest first. -/
def eightN (t : Nat) : List Nat := [t / 2 ^ 56 % 256, t / 2 ^ 48 % 256, t / 2 ^ 40 % 256, t / 2 ^ 32 % 256, t / 2 ^ 24 % 256, t / 2 ^ 16 % 256, t / 2 ^ 8 % 256, t % 256]
theorem eightN_lt (t : Nat) : ∀ c ∈ eightN t, c < 256 := fun c hc => by
  simp only [eightN, List.mem_cons, List.not_mem_nil, or_false] at hc
  rcases hc with rfl | rfl | rfl | rfl | rfl | rfl | rfl | rfl <;> exact Nat.mod_lt _ (by decide)
theorem dig8 (m k : Nat) : m / 2 ^ (k + 8) * 256 + m / 2 ^ k % 256 = m / 2 ^ k := by
  rw [Nat.pow_add, ← Nat.div_div_eq_div_mul]
  exact Nat.div_add_mod' _ _
theorem digm (t k : Nat) (ht : t < 2 ^ 64) : t / 2 ^ (k + 8) * 256 % 2 ^ 64 + t / 2 ^ k % 256 = t / 2 ^ k := by
  have h1 : t / 2 ^ (k + 8) ≤ t / 2 ^ 8 := Nat.div_le_div_left (Nat.pow_le_pow_right (by decide) (by omega)) (Nat.two_pow_pos 8)
  rw [Nat.mod_eq_of_lt (by omega)]
  exact dig8 t k
theorem readN_eight (t : Nat) (ht : t < 2 ^ 64) : readN (eightN t) = t := by
  have h0 : 0 * 256 % 2 ^ 64 + t / 2 ^ 56 % 256 = t / 2 ^ 56 := by omega
  simp only [readN, eightN, List.foldl_cons, List.foldl_nil]
  rw [h0, digm t 48 ht, digm t 40 ht, digm t 32 ht, digm t 24 ht, digm t 16 ht, digm t 8 ht]
  have := digm t 0 ht
  simpa using this
theorem len8 (l : List Nat) (h : l.length = 8) : ∃ a b c d e f g i, l = [a, b, c, d, e, f, g, i] := by
  match l, h with
  | [a, b, c, d, e, f, g, i], _ => exact ⟨a, b, c, d, e, f, g, i, rfl⟩
theorem read_inj (x y : List Nat) (hx : x.length = 8) (hy : y.length = 8) (bx : ∀ c ∈ x, c < 256) (bY : ∀ c ∈ y, c < 256) (h : readN x = readN y) : x = y := by
  obtain ⟨a1, a2, a3, a4, a5, a6, a7, a8, rfl⟩ := len8 x hx
  obtain ⟨b1, b2, b3, b4, b5, b6, b7, b8, rfl⟩ := len8 y hy
  simp only [List.mem_cons, List.not_mem_nil, or_false, forall_eq_or_imp, forall_eq] at bx bY
  simp only [readN, List.foldl_cons, List.foldl_nil] at h
  rw [Nat.mod_eq_of_lt (a := 0 * 256) (by omega)] at h
  obtain ⟨p1, p2, p3, p4, p5, p6, p7, p8⟩ := bx
  obtain ⟨q1, q2, q3, q4, q5, q6, q7, q8⟩ := bY
  have e8 : a8 = b8 := by omega
  subst e8
  have e7 : a7 = b7 := by omega
  subst e7
  have e6 : a6 = b6 := by omega
  subst e6
  have e5 : a5 = b5 := by omega
  subst e5
  have e4 : a4 = b4 := by omega
  subst e4
  have e3 : a3 = b3 := by omega
  subst e3
  have e2 : a2 = b2 := by omega
  subst e2
  have e1 : a1 = b1 := by omega
  subst e1
  rfl
theorem eightN_get (t : Nat) : ∀ k, k < 8 → (eightN t).getD k 0 = t / 2 ^ (8 * (7 - k)) % 256
  | 0, _ => rfl | 1, _ => rfl | 2, _ => rfl | 3, _ => rfl | 4, _ => rfl | 5, _ => rfl | 6, _ => rfl
  | 7, _ => by simp [eightN]
  | k + 8, h => by omega

theorem byte_form (t : Nat) (d : Nat) (D : Int) (hd : D = (d : Int)) : (t : Int) / D % 256 = ((t / d % 256 : Nat) : Int) := by subst hd; simp

set_option maxRecDepth 100000 in
set_option maxHeartbeats 2000000 in
theorem lay_any (v : Value) (n : Nat) (l : List Nat) (t : Nat) (base : Nat) (w : World) (hown : w.ownsRow base 5 1 v n (bv l)) (hbase : base ≤ w.heap.size) (ht : t < 2 ^ 64) (hn : n ≤ 140737488355320) :
    Calls Try.prog 58 #[v, .int .u64 (t : Int)] w fun e w' => ∃ v', e = .returned v' ∧ w'.ownsRow base 5 1 v' (n + 8) (bv (l ++ eightN t)) ∧ Below base w w' := by
  obtain ⟨A, c, rfl, hnc, hcm, _, _⟩ := own_form hown
  have HO := Lib.hid hown
  have HB := Lib.hid hbase
  obtain ⟨i0, hi, hz0, hz1, hz2⟩ := info_parts infoB
  have HI := Lib.hid (And.intro hi (And.intro hz0 (And.intro hz1 hz2)))
  clear hi hz0 hz1 hz2 hown hbase hcm hnc
  go_enter Try.func58, Try.ntmps58
  go_wp2
  go_loopw [0, 5] (fun v i wr => ∃ k : Nat, k ≤ 8 ∧ i = .int .i64 (7 - (k : Int)) ∧ Hid (wr.ownsRow base 5 1 v (n + k) (bv (l ++ (eightN t).take k)) ∧ Below base w wr)) (fun _ i _ => (intOf i + 1).toNat)
  case atStart => exact ⟨0, by omega, rfl, by simpa using HO.out, Below.refl _ _⟩
  case round =>
    obtain ⟨k, hk, rfl, HK⟩ := hrel
    by_cases hlt : k < 8
    · have hG := Lib.hid (eightN_get t k hlt)
      have hT := Lib.hid (takeD_snoc (eightN t) k 0 hlt)
      have hcase : k = 0 ∨ k = 1 ∨ k = 2 ∨ k = 3 ∨ k = 4 ∨ k = 5 ∨ k = 6 ∨ k = 7 := by omega
      clear hk hlt
      rcases hcase with rfl | rfl | rfl | rfl | rfl | rfl | rfl | rfl
      · have hF : Hid ((t : Int) / 72057594037927936 = (((eightN t).getD 0 0 : Nat) : Int)) := by show _ = _; rw [hG.out]; omega
        obtain ⟨Ak, ck, ek, _, _, _, _⟩ := own_form HK.out.1
        subst ek
        have hbk : Hid (base ≤ wr.heap.size) := Nat.le_trans HB.out HK.out.2.size
        have hbk2 : Hid (base ≤ (wr.alloc (.cells #[.int .u8 ((t : Int) / 72057594037927936)] 5)).heap.size) := by show _ ≤ _; simp only [World.size_alloc]; exact Nat.le_trans hbk.out (by omega)
        go_wp2_with (at_builtin; refine wpList_app _ rfl (.tmp 10) (.tmp 16) 53 rfl base 5 i0 (.int .u8 0) 1 1 Try.underlying53 HI.out.1 HI.out.2.1 HI.out.2.2.1 HI.out.2.2.2 rfl (by decide) (.slice Ak (n + 0) ck) (n + 0) (bv (l ++ (eightN t).take 0)) rfl (HK.out.1.alloc _) (wr.heap.size + 1) (some ⟨wr.heap.size, 0, none⟩) 1 1 [.int .u8 ((t : Int) / 72057594037927936)] rfl (rd_new _ _ _ _ _ _ _ rfl (by omega) rfl rfl) (by simp [ones, Value.oneCell']) (by unfold maxLen; omega) (by omega) hbk2.out ?_)
        intro v1 w1 hown1 hgrow1
        have HN : Hid (w1.ownsRow base 5 1 v1 (n + 1) (bv (l ++ (eightN t).take 1)) ∧ Below base w w1) := by
          refine ⟨?_, (HK.out.2.alloc hbk.out _).grown hgrow1 hbk2.out (fun g hg => (HK.out.1.lt g hg).1)⟩
          rw [hT.out, ← List.append_assoc, bv_app, show bv [(eightN t).getD 0 0] = [.int .u8 ((t : Int) / 72057594037927936)] by rw [hF.out]; rfl]
          first | exact hown1 | (rw [List.take_zero, List.append_nil]; exact hown1)
        clear hown1 hgrow1
        go_wp2
        go_roundw
        case rel => exact ⟨1, by omega, by go_num, HN⟩
        case measure => simp [intOf]
      · have hF : Hid ((t : Int) / 281474976710656 % 256 = (((eightN t).getD 1 0 : Nat) : Int)) := by show _ = _; rw [hG.out]; omega
        obtain ⟨Ak, ck, ek, _, _, _, _⟩ := own_form HK.out.1
        subst ek
        have hbk : Hid (base ≤ wr.heap.size) := Nat.le_trans HB.out HK.out.2.size
        have hbk2 : Hid (base ≤ (wr.alloc (.cells #[.int .u8 ((t : Int) / 281474976710656 % 256)] 5)).heap.size) := by show _ ≤ _; simp only [World.size_alloc]; exact Nat.le_trans hbk.out (by omega)
        go_wp2_with (at_builtin; refine wpList_app _ rfl (.tmp 10) (.tmp 16) 53 rfl base 5 i0 (.int .u8 0) 1 1 Try.underlying53 HI.out.1 HI.out.2.1 HI.out.2.2.1 HI.out.2.2.2 rfl (by decide) (.slice Ak (n + 1) ck) (n + 1) (bv (l ++ (eightN t).take 1)) rfl (HK.out.1.alloc _) (wr.heap.size + 1) (some ⟨wr.heap.size, 0, none⟩) 1 1 [.int .u8 ((t : Int) / 281474976710656 % 256)] rfl (rd_new _ _ _ _ _ _ _ rfl (by omega) rfl rfl) (by simp [ones, Value.oneCell']) (by unfold maxLen; omega) (by omega) hbk2.out ?_)
        intro v1 w1 hown1 hgrow1
        have HN : Hid (w1.ownsRow base 5 1 v1 (n + 2) (bv (l ++ (eightN t).take 2)) ∧ Below base w w1) := by
          refine ⟨?_, (HK.out.2.alloc hbk.out _).grown hgrow1 hbk2.out (fun g hg => (HK.out.1.lt g hg).1)⟩
          rw [hT.out, ← List.append_assoc, bv_app, show bv [(eightN t).getD 1 0] = [.int .u8 ((t : Int) / 281474976710656 % 256)] by rw [hF.out]; rfl]
          exact hown1
        clear hown1 hgrow1
        go_wp2
        go_roundw
        case rel => exact ⟨2, by omega, by go_num, HN⟩
        case measure => simp [intOf]
      · have hF : Hid ((t : Int) / 1099511627776 % 256 = (((eightN t).getD 2 0 : Nat) : Int)) := by show _ = _; rw [hG.out]; omega
        obtain ⟨Ak, ck, ek, _, _, _, _⟩ := own_form HK.out.1
        subst ek
        have hbk : Hid (base ≤ wr.heap.size) := Nat.le_trans HB.out HK.out.2.size
        have hbk2 : Hid (base ≤ (wr.alloc (.cells #[.int .u8 ((t : Int) / 1099511627776 % 256)] 5)).heap.size) := by show _ ≤ _; simp only [World.size_alloc]; exact Nat.le_trans hbk.out (by omega)
        go_wp2_with (at_builtin; refine wpList_app _ rfl (.tmp 10) (.tmp 16) 53 rfl base 5 i0 (.int .u8 0) 1 1 Try.underlying53 HI.out.1 HI.out.2.1 HI.out.2.2.1 HI.out.2.2.2 rfl (by decide) (.slice Ak (n + 2) ck) (n + 2) (bv (l ++ (eightN t).take 2)) rfl (HK.out.1.alloc _) (wr.heap.size + 1) (some ⟨wr.heap.size, 0, none⟩) 1 1 [.int .u8 ((t : Int) / 1099511627776 % 256)] rfl (rd_new _ _ _ _ _ _ _ rfl (by omega) rfl rfl) (by simp [ones, Value.oneCell']) (by unfold maxLen; omega) (by omega) hbk2.out ?_)
        intro v1 w1 hown1 hgrow1
        have HN : Hid (w1.ownsRow base 5 1 v1 (n + 3) (bv (l ++ (eightN t).take 3)) ∧ Below base w w1) := by
          refine ⟨?_, (HK.out.2.alloc hbk.out _).grown hgrow1 hbk2.out (fun g hg => (HK.out.1.lt g hg).1)⟩
          rw [hT.out, ← List.append_assoc, bv_app, show bv [(eightN t).getD 2 0] = [.int .u8 ((t : Int) / 1099511627776 % 256)] by rw [hF.out]; rfl]
          exact hown1
        clear hown1 hgrow1
        go_wp2
        go_roundw
        case rel => exact ⟨3, by omega, by go_num, HN⟩
        case measure => simp [intOf]
      · have hF : Hid ((t : Int) / 4294967296 % 256 = (((eightN t).getD 3 0 : Nat) : Int)) := by show _ = _; rw [hG.out]; omega
        obtain ⟨Ak, ck, ek, _, _, _, _⟩ := own_form HK.out.1
        subst ek
        have hbk : Hid (base ≤ wr.heap.size) := Nat.le_trans HB.out HK.out.2.size
        have hbk2 : Hid (base ≤ (wr.alloc (.cells #[.int .u8 ((t : Int) / 4294967296 % 256)] 5)).heap.size) := by show _ ≤ _; simp only [World.size_alloc]; exact Nat.le_trans hbk.out (by omega)
        go_wp2_with (at_builtin; refine wpList_app _ rfl (.tmp 10) (.tmp 16) 53 rfl base 5 i0 (.int .u8 0) 1 1 Try.underlying53 HI.out.1 HI.out.2.1 HI.out.2.2.1 HI.out.2.2.2 rfl (by decide) (.slice Ak (n + 3) ck) (n + 3) (bv (l ++ (eightN t).take 3)) rfl (HK.out.1.alloc _) (wr.heap.size + 1) (some ⟨wr.heap.size, 0, none⟩) 1 1 [.int .u8 ((t : Int) / 4294967296 % 256)] rfl (rd_new _ _ _ _ _ _ _ rfl (by omega) rfl rfl) (by simp [ones, Value.oneCell']) (by unfold maxLen; omega) (by omega) hbk2.out ?_)
        intro v1 w1 hown1 hgrow1
        have HN : Hid (w1.ownsRow base 5 1 v1 (n + 4) (bv (l ++ (eightN t).take 4)) ∧ Below base w w1) := by
          refine ⟨?_, (HK.out.2.alloc hbk.out _).grown hgrow1 hbk2.out (fun g hg => (HK.out.1.lt g hg).1)⟩
          rw [hT.out, ← List.append_assoc, bv_app, show bv [(eightN t).getD 3 0] = [.int .u8 ((t : Int) / 4294967296 % 256)] by rw [hF.out]; rfl]
          exact hown1
        clear hown1 hgrow1
        go_wp2
        go_roundw
        case rel => exact ⟨4, by omega, by go_num, HN⟩
        case measure => simp [intOf]
      · have hF : Hid ((t : Int) / 16777216 % 256 = (((eightN t).getD 4 0 : Nat) : Int)) := by show _ = _; rw [hG.out]; omega
        obtain ⟨Ak, ck, ek, _, _, _, _⟩ := own_form HK.out.1
        subst ek
        have hbk : Hid (base ≤ wr.heap.size) := Nat.le_trans HB.out HK.out.2.size
        have hbk2 : Hid (base ≤ (wr.alloc (.cells #[.int .u8 ((t : Int) / 16777216 % 256)] 5)).heap.size) := by show _ ≤ _; simp only [World.size_alloc]; exact Nat.le_trans hbk.out (by omega)
        go_wp2_with (at_builtin; refine wpList_app _ rfl (.tmp 10) (.tmp 16) 53 rfl base 5 i0 (.int .u8 0) 1 1 Try.underlying53 HI.out.1 HI.out.2.1 HI.out.2.2.1 HI.out.2.2.2 rfl (by decide) (.slice Ak (n + 4) ck) (n + 4) (bv (l ++ (eightN t).take 4)) rfl (HK.out.1.alloc _) (wr.heap.size + 1) (some ⟨wr.heap.size, 0, none⟩) 1 1 [.int .u8 ((t : Int) / 16777216 % 256)] rfl (rd_new _ _ _ _ _ _ _ rfl (by omega) rfl rfl) (by simp [ones, Value.oneCell']) (by unfold maxLen; omega) (by omega) hbk2.out ?_)
        intro v1 w1 hown1 hgrow1
        have HN : Hid (w1.ownsRow base 5 1 v1 (n + 5) (bv (l ++ (eightN t).take 5)) ∧ Below base w w1) := by
          refine ⟨?_, (HK.out.2.alloc hbk.out _).grown hgrow1 hbk2.out (fun g hg => (HK.out.1.lt g hg).1)⟩
          rw [hT.out, ← List.append_assoc, bv_app, show bv [(eightN t).getD 4 0] = [.int .u8 ((t : Int) / 16777216 % 256)] by rw [hF.out]; rfl]
          exact hown1
        clear hown1 hgrow1
        go_wp2
        go_roundw
        case rel => exact ⟨5, by omega, by go_num, HN⟩
        case measure => simp [intOf]
      · have hF : Hid ((t : Int) / 65536 % 256 = (((eightN t).getD 5 0 : Nat) : Int)) := by show _ = _; rw [hG.out]; omega
        obtain ⟨Ak, ck, ek, _, _, _, _⟩ := own_form HK.out.1
        subst ek
        have hbk : Hid (base ≤ wr.heap.size) := Nat.le_trans HB.out HK.out.2.size
        have hbk2 : Hid (base ≤ (wr.alloc (.cells #[.int .u8 ((t : Int) / 65536 % 256)] 5)).heap.size) := by show _ ≤ _; simp only [World.size_alloc]; exact Nat.le_trans hbk.out (by omega)
        go_wp2_with (at_builtin; refine wpList_app _ rfl (.tmp 10) (.tmp 16) 53 rfl base 5 i0 (.int .u8 0) 1 1 Try.underlying53 HI.out.1 HI.out.2.1 HI.out.2.2.1 HI.out.2.2.2 rfl (by decide) (.slice Ak (n + 5) ck) (n + 5) (bv (l ++ (eightN t).take 5)) rfl (HK.out.1.alloc _) (wr.heap.size + 1) (some ⟨wr.heap.size, 0, none⟩) 1 1 [.int .u8 ((t : Int) / 65536 % 256)] rfl (rd_new _ _ _ _ _ _ _ rfl (by omega) rfl rfl) (by simp [ones, Value.oneCell']) (by unfold maxLen; omega) (by omega) hbk2.out ?_)
        intro v1 w1 hown1 hgrow1
        have HN : Hid (w1.ownsRow base 5 1 v1 (n + 6) (bv (l ++ (eightN t).take 6)) ∧ Below base w w1) := by
          refine ⟨?_, (HK.out.2.alloc hbk.out _).grown hgrow1 hbk2.out (fun g hg => (HK.out.1.lt g hg).1)⟩
          rw [hT.out, ← List.append_assoc, bv_app, show bv [(eightN t).getD 5 0] = [.int .u8 ((t : Int) / 65536 % 256)] by rw [hF.out]; rfl]
          exact hown1
        clear hown1 hgrow1
        go_wp2
        go_roundw
        case rel => exact ⟨6, by omega, by go_num, HN⟩
        case measure => simp [intOf]
      · have hF : Hid ((t : Int) / 256 % 256 = (((eightN t).getD 6 0 : Nat) : Int)) := by show _ = _; rw [hG.out]; omega
        obtain ⟨Ak, ck, ek, _, _, _, _⟩ := own_form HK.out.1
        subst ek
        have hbk : Hid (base ≤ wr.heap.size) := Nat.le_trans HB.out HK.out.2.size
        have hbk2 : Hid (base ≤ (wr.alloc (.cells #[.int .u8 ((t : Int) / 256 % 256)] 5)).heap.size) := by show _ ≤ _; simp only [World.size_alloc]; exact Nat.le_trans hbk.out (by omega)
        go_wp2_with (at_builtin; refine wpList_app _ rfl (.tmp 10) (.tmp 16) 53 rfl base 5 i0 (.int .u8 0) 1 1 Try.underlying53 HI.out.1 HI.out.2.1 HI.out.2.2.1 HI.out.2.2.2 rfl (by decide) (.slice Ak (n + 6) ck) (n + 6) (bv (l ++ (eightN t).take 6)) rfl (HK.out.1.alloc _) (wr.heap.size + 1) (some ⟨wr.heap.size, 0, none⟩) 1 1 [.int .u8 ((t : Int) / 256 % 256)] rfl (rd_new _ _ _ _ _ _ _ rfl (by omega) rfl rfl) (by simp [ones, Value.oneCell']) (by unfold maxLen; omega) (by omega) hbk2.out ?_)
        intro v1 w1 hown1 hgrow1
        have HN : Hid (w1.ownsRow base 5 1 v1 (n + 7) (bv (l ++ (eightN t).take 7)) ∧ Below base w w1) := by
          refine ⟨?_, (HK.out.2.alloc hbk.out _).grown hgrow1 hbk2.out (fun g hg => (HK.out.1.lt g hg).1)⟩
          rw [hT.out, ← List.append_assoc, bv_app, show bv [(eightN t).getD 6 0] = [.int .u8 ((t : Int) / 256 % 256)] by rw [hF.out]; rfl]
          exact hown1
        clear hown1 hgrow1
        go_wp2
        go_roundw
        case rel => exact ⟨7, by omega, by go_num, HN⟩
        case measure => simp [intOf]
      · have hF : Hid ((t : Int) % 256 = (((eightN t).getD 7 0 : Nat) : Int)) := by show _ = _; rw [hG.out]; omega
        obtain ⟨Ak, ck, ek, _, _, _, _⟩ := own_form HK.out.1
        subst ek
        have hbk : Hid (base ≤ wr.heap.size) := Nat.le_trans HB.out HK.out.2.size
        have hbk2 : Hid (base ≤ (wr.alloc (.cells #[.int .u8 ((t : Int) % 256)] 5)).heap.size) := by show _ ≤ _; simp only [World.size_alloc]; exact Nat.le_trans hbk.out (by omega)
        go_wp2_with (at_builtin; refine wpList_app _ rfl (.tmp 10) (.tmp 16) 53 rfl base 5 i0 (.int .u8 0) 1 1 Try.underlying53 HI.out.1 HI.out.2.1 HI.out.2.2.1 HI.out.2.2.2 rfl (by decide) (.slice Ak (n + 7) ck) (n + 7) (bv (l ++ (eightN t).take 7)) rfl (HK.out.1.alloc _) (wr.heap.size + 1) (some ⟨wr.heap.size, 0, none⟩) 1 1 [.int .u8 ((t : Int) % 256)] rfl (rd_new _ _ _ _ _ _ _ rfl (by omega) rfl rfl) (by simp [ones, Value.oneCell']) (by unfold maxLen; omega) (by omega) hbk2.out ?_)
        intro v1 w1 hown1 hgrow1
        have HN : Hid (w1.ownsRow base 5 1 v1 (n + 8) (bv (l ++ (eightN t).take 8)) ∧ Below base w w1) := by
          refine ⟨?_, (HK.out.2.alloc hbk.out _).grown hgrow1 hbk2.out (fun g hg => (HK.out.1.lt g hg).1)⟩
          rw [hT.out, ← List.append_assoc, bv_app, show bv [(eightN t).getD 7 0] = [.int .u8 ((t : Int) % 256)] by rw [hF.out]; rfl]
          exact hown1
        clear hown1 hgrow1
        go_wp2
        go_roundw
        case rel => exact ⟨8, by omega, by go_num, HN⟩
        case measure => simp [intOf]
    · obtain rfl : k = 8 := by omega
      have HK' : Hid (wr.ownsRow base 5 1 u0 (n + 8) (bv (l ++ eightN t)) ∧ Below base w wr) := HK
      clear HK hlt hk
      go_wp2
      go_ret
      exact ⟨_, rfl, HK'.out⟩
end Go.Proofs.Ytegfaecbealnhab
