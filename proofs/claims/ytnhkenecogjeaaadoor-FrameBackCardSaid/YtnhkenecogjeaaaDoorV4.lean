/- A number read. Conditions: as each theorem lists them. -/
import Derived.Test.YtnhkenecogjeaaaDoorV3
namespace Go.Proofs.YtnhkenecogjeaaaDoor
open Go Go.RowKit

/-- A number's value: its first byte without the mark, then the others. -/
def valF (b0 : Nat) (r : List Nat) : Nat := r.foldl (fun n c => n * 256 + c) (b0 % 64)

theorem i64_or_nat (a b : Nat) (ha : a < 9223372036854775808) (hb : b < 9223372036854775808) : bits .or .i64 (a : Int) (b : Int) = ((a ||| b : Nat) : Int) := by
  have h : ∀ a : Nat, a < 9223372036854775808 → (BitVec.ofInt 64 (a : Int)).toNat = a := fun a ha => by
    rw [BitVec.ofInt_natCast, BitVec.toNat_ofNat]; exact Nat.mod_eq_of_lt (by omega)
  have hx : a ||| b < 2 ^ 63 := Nat.or_lt_two_pow (by omega) (by omega)
  show IntKind.i64.wrap ((BitVec.ofInt 64 (a : Int) ||| BitVec.ofInt 64 (b : Int)).toNat : Int) = _
  rw [BitVec.toNat_or, h a ha, h b hb, IntKind.wrap_i64]
  omega

theorem valF_lt (b0 : Nat) : ∀ (r : List Nat), (∀ c ∈ r, c < 256) → valF b0 r < 64 * 256 ^ r.length := by
  have gen : ∀ (r : List Nat) (n : Nat) (M : Nat), n < M → (∀ c ∈ r, c < 256) → r.foldl (fun n c => n * 256 + c) n < M * 256 ^ r.length := by
    intro r
    induction r with
    | nil => intro n M h _; simpa using h
    | cons c r ih =>
      intro n M h hc
      have h1 := hc c (by simp)
      have := ih (n * 256 + c) (M * 256) (by omega) (fun d hd => hc d (by simp [hd]))
      simp only [List.foldl_cons, List.length_cons]
      rw [Nat.pow_succ, Nat.mul_comm (256 ^ r.length), ← Nat.mul_assoc]
      exact this
  exact fun r hr => gen r (b0 % 64) 64 (Nat.mod_lt _ (by decide)) hr
theorem valF_snoc (b0 : Nat) (r : List Nat) (c : Nat) : valF b0 (r ++ [c]) = valF b0 r * 256 + c := by simp [valF]

theorem or_byte (n c : Nat) (hn : n < 36028797018963968) (hc : c < 256) : bits .or .i64 ((n : Int) * 256) (c : Int) = ((n * 256 + c : Nat) : Int) := by
  have e : ((n : Int) * 256) = ((n * 256 : Nat) : Int) := by omega
  rw [e, i64_or_nat _ _ (by omega) (by omega)]
  have := Nat.shiftLeft_add_eq_or_of_lt (show c < 2 ^ 8 from hc) n
  rw [Nat.shiftLeft_eq] at this
  rw [← this]

theorem and63 : ∀ b : Fin 256, bits .and .u8 ((b.val : Nat) : Int) 63 = ((b.val % 64 : Nat) : Int) := by decide +kernel

set_option maxHeartbeats 1000000 in
theorem read_q (q W : Nat) (hq : (q = 1 ∧ W = 2) ∨ (q = 2 ∧ W = 4) ∨ (q = 3 ∧ W = 8)) (b off n cap b0 : Nat) (r : List Nat) (w : World) (hn : n ≤ cap) (hW : W ≤ n) (hr : r.length = W - 1) (hb0 : b0 < 256) (hbq : b0 / 64 = q) (hbs : ∀ c ∈ r, c < 256) (hm : n ≤ 140737488355328)
    (h0 : w.cell? ⟨b, off, none⟩ = some (.int .u8 (b0 : Int))) (hc : ∀ j, j < r.length → w.cell? ⟨b, off + 1 + j, none⟩ = some (.int .u8 ((r.getD j 0 : Nat) : Int))) :
    Calls Tryd.prog 51 #[.slice (some ⟨b, off, none⟩) n cap] w fun e w' => e = .returned (.tuple #[.int .i64 ((valF b0 r : Nat) : Int), .int .i64 (W : Int)]) ∧ w = w' := by
  have HC := Lib.hid hc
  have HB := Lib.hid hbs
  have HV := Lib.hid (valF_lt b0)
  have hand : bits .and .u8 ((b0 : Nat) : Int) 63 = ((b0 % 64 : Nat) : Int) := and63 ⟨b0, hb0⟩
  have hdiv : ((b0 : Nat) : Int) / 64 = (q : Int) := by omega
  have hnn : (0 : Int) < (n : Int) := by omega
  clear hc hbs
  rcases hq with ⟨rfl, rfl⟩ | ⟨rfl, rfl⟩ | ⟨rfl, rfl⟩
  · go_enter Tryd.func51, Tryd.ntmps51
    go_wp2
    go_loop [2, 27] (fun v i => ∃ k : Nat, k ≤ 1 ∧ i = .int .i64 k ∧ v = .int .i64 ((valF b0 (r.take k) : Nat) : Int)) (fun _ i => 1 - (intOf i).toNat)
    case atStart => exact ⟨0, by omega, rfl, by simp [valF]⟩
    case round =>
      obtain ⟨k, hk, rfl, rfl⟩ := hrel
      by_cases hlt : k < 1
      · have hkr : k < r.length := by omega
        obtain ⟨x, hx, hcell⟩ : ∃ x : Nat, Hid (r[k] = x) ∧ w.cell? ⟨b, off + 1 + k, none⟩ = some (.int .u8 (x : Int)) := ⟨r[k], rfl, by rw [HC.out k hkr]; simp [List.getD, hkr]⟩
        have hx256 : x < 256 := by have := HB.out _ (List.getElem_mem hkr); rw [hx.out] at this; exact this
        obtain ⟨y, hy⟩ : ∃ y, Hid (valF b0 (r.take k) = y) := ⟨_, rfl⟩
        have hyl : y < 36028797018963968 := by
          have h1 := HV.out (r.take k) (fun c hc => HB.out c (List.mem_of_mem_take hc))
          rw [hy.out] at h1
          have h2 : (r.take k).length ≤ 6 := by rw [List.length_take]; omega
          have h3 : 256 ^ (r.take k).length ≤ 256 ^ 6 := Nat.pow_le_pow_right (by decide) h2
          omega
        have hsn : Hid (valF b0 (r.take (k + 1)) = y * 256 + x) := by
          have e : r.take (k + 1) = r.take k ++ [r[k]] := by rw [List.take_succ_eq_append_getElem hkr]
          show _ = _
          rw [e, valF_snoc, hx.out, hy.out]
        have hor := or_byte y x hyl hx256
        rw [hy.out]
        clear hlt
        go_wp2
        go_round
        case rel => exact ⟨k + 1, by omega, by go_num, by rw [hsn.out]; go_num⟩
        case measure => simp [intOf]; omega
      · go_wp2
        go_ret2
        have e : r.take k = r := List.take_of_length_le (by omega)
        rw [e]
        exact ⟨rfl, rfl⟩
  · go_enter Tryd.func51, Tryd.ntmps51
    go_wp2
    go_loop [2, 27] (fun v i => ∃ k : Nat, k ≤ 3 ∧ i = .int .i64 k ∧ v = .int .i64 ((valF b0 (r.take k) : Nat) : Int)) (fun _ i => 3 - (intOf i).toNat)
    case atStart => exact ⟨0, by omega, rfl, by simp [valF]⟩
    case round =>
      obtain ⟨k, hk, rfl, rfl⟩ := hrel
      by_cases hlt : k < 3
      · have hkr : k < r.length := by omega
        obtain ⟨x, hx, hcell⟩ : ∃ x : Nat, Hid (r[k] = x) ∧ w.cell? ⟨b, off + 1 + k, none⟩ = some (.int .u8 (x : Int)) := ⟨r[k], rfl, by rw [HC.out k hkr]; simp [List.getD, hkr]⟩
        have hx256 : x < 256 := by have := HB.out _ (List.getElem_mem hkr); rw [hx.out] at this; exact this
        obtain ⟨y, hy⟩ : ∃ y, Hid (valF b0 (r.take k) = y) := ⟨_, rfl⟩
        have hyl : y < 36028797018963968 := by
          have h1 := HV.out (r.take k) (fun c hc => HB.out c (List.mem_of_mem_take hc))
          rw [hy.out] at h1
          have h2 : (r.take k).length ≤ 6 := by rw [List.length_take]; omega
          have h3 : 256 ^ (r.take k).length ≤ 256 ^ 6 := Nat.pow_le_pow_right (by decide) h2
          omega
        have hsn : Hid (valF b0 (r.take (k + 1)) = y * 256 + x) := by
          have e : r.take (k + 1) = r.take k ++ [r[k]] := by rw [List.take_succ_eq_append_getElem hkr]
          show _ = _
          rw [e, valF_snoc, hx.out, hy.out]
        have hor := or_byte y x hyl hx256
        rw [hy.out]
        clear hlt
        go_wp2
        go_round
        case rel => exact ⟨k + 1, by omega, by go_num, by rw [hsn.out]; go_num⟩
        case measure => simp [intOf]; omega
      · go_wp2
        go_ret2
        have e : r.take k = r := List.take_of_length_le (by omega)
        rw [e]
        exact ⟨rfl, rfl⟩
  · go_enter Tryd.func51, Tryd.ntmps51
    go_wp2
    go_loop [2, 27] (fun v i => ∃ k : Nat, k ≤ 7 ∧ i = .int .i64 k ∧ v = .int .i64 ((valF b0 (r.take k) : Nat) : Int)) (fun _ i => 7 - (intOf i).toNat)
    case atStart => exact ⟨0, by omega, rfl, by simp [valF]⟩
    case round =>
      obtain ⟨k, hk, rfl, rfl⟩ := hrel
      by_cases hlt : k < 7
      · have hkr : k < r.length := by omega
        obtain ⟨x, hx, hcell⟩ : ∃ x : Nat, Hid (r[k] = x) ∧ w.cell? ⟨b, off + 1 + k, none⟩ = some (.int .u8 (x : Int)) := ⟨r[k], rfl, by rw [HC.out k hkr]; simp [List.getD, hkr]⟩
        have hx256 : x < 256 := by have := HB.out _ (List.getElem_mem hkr); rw [hx.out] at this; exact this
        obtain ⟨y, hy⟩ : ∃ y, Hid (valF b0 (r.take k) = y) := ⟨_, rfl⟩
        have hyl : y < 36028797018963968 := by
          have h1 := HV.out (r.take k) (fun c hc => HB.out c (List.mem_of_mem_take hc))
          rw [hy.out] at h1
          have h2 : (r.take k).length ≤ 6 := by rw [List.length_take]; omega
          have h3 : 256 ^ (r.take k).length ≤ 256 ^ 6 := Nat.pow_le_pow_right (by decide) h2
          omega
        have hsn : Hid (valF b0 (r.take (k + 1)) = y * 256 + x) := by
          have e : r.take (k + 1) = r.take k ++ [r[k]] := by rw [List.take_succ_eq_append_getElem hkr]
          show _ = _
          rw [e, valF_snoc, hx.out, hy.out]
        have hor := or_byte y x hyl hx256
        rw [hy.out]
        clear hlt
        go_wp2
        go_round
        case rel => exact ⟨k + 1, by omega, by go_num, by rw [hsn.out]; go_num⟩
        case measure => simp [intOf]; omega
      · go_wp2
        go_ret2
        have e : r.take k = r := List.take_of_length_le (by omega)
        rw [e]
        exact ⟨rfl, rfl⟩

set_option maxHeartbeats 1000000 in
theorem read_1 (b off n cap b0 : Nat) (w : World) (hn : n ≤ cap) (hW : 1 ≤ n) (hb0 : b0 < 256) (hbq : b0 / 64 = 0) (hm : n ≤ 140737488355328)
    (h0 : w.cell? ⟨b, off, none⟩ = some (.int .u8 (b0 : Int))) :
    Calls Tryd.prog 51 #[.slice (some ⟨b, off, none⟩) n cap] w fun e w' => e = .returned (.tuple #[.int .i64 ((valF b0 [] : Nat) : Int), .int .i64 1]) ∧ w = w' := by
  have hv : ((valF b0 [] : Nat) : Int) = (b0 : Int) := by simp [valF]; omega
  rw [hv]
  clear hv
  have hand : bits .and .u8 ((b0 : Nat) : Int) 63 = ((b0 : Nat) : Int) := by rw [and63 ⟨b0, hb0⟩]; simp only; omega
  have hdiv : ((b0 : Nat) : Int) / 64 = 0 := by omega
  have hnn : (0 : Int) < (n : Int) := by omega
  clear hbq
  by_cases hcap : cap = 1
  all_goals
    go_enter Tryd.func51, Tryd.ntmps51
    go_wp2
    go_loop [2, 27] (fun v i => i = .int .i64 0 ∧ v = .int .i64 (b0 : Int)) (fun _ _ => 0)
    case atStart => exact ⟨rfl, rfl⟩
    case round =>
      obtain ⟨rfl, rfl⟩ := hrel
      go_wp2
      go_ret2
      exact ⟨rfl, rfl⟩

set_option maxHeartbeats 1000000 in
theorem read_nil (A : Option Addr) (cap : Nat) (w : World) :
    Calls Tryd.prog 51 #[.slice A 0 cap] w fun e w' => e = .returned (.tuple #[.int .i64 0, .int .i64 0]) ∧ w = w' := by
  go_enter Tryd.func51, Tryd.ntmps51
  go_wp2
  go_ret2
  exact ⟨rfl, rfl⟩

set_option maxHeartbeats 1000000 in
theorem read_less (q : Nat) (W : Nat) (hq : (q = 1 ∧ W = 2) ∨ (q = 2 ∧ W = 4) ∨ (q = 3 ∧ W = 8)) (b off n cap b0 : Nat) (w : World) (hW : n < W) (hn0 : 0 < n) (hbq : b0 / 64 = q) (h0 : w.cell? ⟨b, off, none⟩ = some (.int .u8 (b0 : Int))) :
    Calls Tryd.prog 51 #[.slice (some ⟨b, off, none⟩) n cap] w fun e w' => e = .returned (.tuple #[.int .i64 0, .int .i64 0]) ∧ w = w' := by
  have hdiv : ((b0 : Nat) : Int) / 64 = (q : Int) := by omega
  have hnn : (0 : Int) < (n : Int) := by omega
  rcases hq with ⟨rfl, rfl⟩ | ⟨rfl, rfl⟩ | ⟨rfl, rfl⟩
  all_goals
    go_enter Tryd.func51, Tryd.ntmps51
    go_wp2
    go_ret2
    exact ⟨rfl, rfl⟩

/-- How many bytes the number that begins so has. -/
def lenF (b0 : Nat) : Nat := if b0 / 64 = 0 then 1 else if b0 / 64 = 1 then 2 else if b0 / 64 = 2 then 4 else 8

/-- The number in front, and its length; nothing: it is not all there. -/
def dec : List Nat → Option (Nat × Nat)
  | [] => none
  | b0 :: r => if r.length + 1 < lenF b0 then none else some (valF b0 (r.take (lenF b0 - 1)), lenF b0)

theorem lenF_cases (b0 : Nat) (h : b0 < 256) : (b0 / 64 = 0 ∧ lenF b0 = 1) ∨ (b0 / 64 = 1 ∧ lenF b0 = 2) ∨ (b0 / 64 = 2 ∧ lenF b0 = 4) ∨ (b0 / 64 = 3 ∧ lenF b0 = 8) := by
  unfold lenF; (repeat' split) <;> omega

theorem read_any (bs : List Nat) (B : Nat) (A : Option Addr) (cap : Nat) (w : World) (hx : Rd w B A bs.length (bv bs)) (hb : ∀ c ∈ bs, c < 256) (hn : bs.length ≤ cap) (hm : bs.length ≤ 140737488355328) :
    Calls Tryd.prog 51 #[.slice A bs.length cap] w fun e w' => e = .returned (match dec bs with
      | some (v, W) => .tuple #[.int .i64 ((v : Nat) : Int), .int .i64 (W : Int)]
      | none => .tuple #[.int .i64 0, .int .i64 0]) ∧ w = w' := by
  match bs, hx, hb, hn, hm with
  | [], hx, hb, hn, hm => exact read_nil A cap w
  | b0 :: r, hx, hb, hn, hm =>
    obtain ⟨b, off, rfl, _, hc⟩ := hx.2 (by simp)
    have hb0 := hb b0 (by simp)
    have h0 : w.cell? ⟨b, off, none⟩ = some (.int .u8 (b0 : Int)) := hc 0 _ rfl
    have hc' : ∀ j, j < (r.take (lenF b0 - 1)).length → w.cell? ⟨b, off + 1 + j, none⟩ = some (.int .u8 (((r.take (lenF b0 - 1)).getD j 0 : Nat) : Int)) := fun j hj => by
      have hj2 : j < r.length := by rw [List.length_take] at hj; omega
      have := hc (j + 1) (.int .u8 ((r[j] : Nat) : Int)) (by simp [bv, hj2])
      rw [show off + 1 + j = off + (j + 1) by omega, this]
      simp only [List.getD, List.getElem?_take]
      rw [List.length_take] at hj
      rw [if_pos (by omega), List.getElem?_eq_getElem hj2]
      rfl
    have hbr : ∀ c ∈ r.take (lenF b0 - 1), c < 256 := fun c hc => hb c (by simp [List.mem_of_mem_take hc])
    simp only [dec]
    by_cases hlt : r.length + 1 < lenF b0
    · rw [if_pos hlt]
      rcases lenF_cases b0 hb0 with ⟨hq, hl⟩ | ⟨hq, hl⟩ | ⟨hq, hl⟩ | ⟨hq, hl⟩
      · omega
      · exact read_less 1 2 (.inl ⟨rfl, rfl⟩) b off _ cap b0 w (by simp; omega) (by simp) hq h0
      · exact read_less 2 4 (.inr (.inl ⟨rfl, rfl⟩)) b off _ cap b0 w (by simp; omega) (by simp) hq h0
      · exact read_less 3 8 (.inr (.inr ⟨rfl, rfl⟩)) b off _ cap b0 w (by simp; omega) (by simp) hq h0
    · rw [if_neg hlt]
      have hlen : (r.take (lenF b0 - 1)).length = lenF b0 - 1 := by rw [List.length_take]; omega
      rcases lenF_cases b0 hb0 with ⟨hq, hl⟩ | ⟨hq, hl⟩ | ⟨hq, hl⟩ | ⟨hq, hl⟩
      · rw [hl]
        exact read_1 b off _ cap b0 w hn (by simp) hb0 hq hm h0
      · rw [hl] at hc' hbr hlen ⊢
        exact read_q 1 2 (.inl ⟨rfl, rfl⟩) b off _ cap b0 _ w hn (by simp; omega) hlen hb0 hq hbr hm h0 hc'
      · rw [hl] at hc' hbr hlen ⊢
        exact read_q 2 4 (.inr (.inl ⟨rfl, rfl⟩)) b off _ cap b0 _ w hn (by simp; omega) hlen hb0 hq hbr hm h0 hc'
      · rw [hl] at hc' hbr hlen ⊢
        exact read_q 3 8 (.inr (.inr ⟨rfl, rfl⟩)) b off _ cap b0 _ w hn (by simp; omega) hlen hb0 hq hbr hm h0 hc'
end Go.Proofs.YtnhkenecogjeaaaDoor
