/- TrailingZeros at four numbers; a number laid as bytes. Conditions: as each theorem lists them. -/
import Derived.Test.YtnhkenecogjeaaaDoorV1
import Derived.OwnWalk
import Derived.WalkSpells
import Derived.Maps.AppendAt
import Derived.Below
namespace Go.Proofs.YtnhkenecogjeaaaDoor
open Go Go.RowKit

structure Tabs (w : World) : Prop where
  c0 : w.cell? ⟨1, 0, none⟩ = some (.int .u8 0)
  c1 : w.cell? ⟨1, 1, none⟩ = some (.int .u8 1)
  c3 : w.cell? ⟨1, 3, none⟩ = some (.int .u8 2)
  c7 : w.cell? ⟨1, 7, none⟩ = some (.int .u8 3)

set_option maxHeartbeats 400000 in
theorem tz64 (w : World) (h : Tabs w) (x r i : Int) (hx : (x = 1 ∧ r = 0 ∧ i = 0) ∨ (x = 2 ∧ r = 1 ∧ i = 1) ∨ (x = 4 ∧ r = 2 ∧ i = 3) ∨ (x = 8 ∧ r = 3 ∧ i = 7)) :
    Calls Tryd.prog 50 #[.int .u64 x] w fun e w' => e = .returned (.int .i64 r) ∧ w = w' := by
  have h0 := h.c0
  have h1 := h.c1
  have h3 := h.c3
  have h7 := h.c7
  clear h
  have e1 : IntKind.u64.wrap (bits .and .u64 1 (IntKind.u64.wrap (-1)) * 285870213051353865) / 288230376151711744 = 0 := by kernel_rfl
  have e2 : IntKind.u64.wrap (bits .and .u64 2 (IntKind.u64.wrap (-2)) * 285870213051353865) / 288230376151711744 = 1 := by kernel_rfl
  have e4 : IntKind.u64.wrap (bits .and .u64 4 (IntKind.u64.wrap (-4)) * 285870213051353865) / 288230376151711744 = 3 := by kernel_rfl
  have e8 : IntKind.u64.wrap (bits .and .u64 8 (IntKind.u64.wrap (-8)) * 285870213051353865) / 288230376151711744 = 7 := by kernel_rfl
  rcases hx with ⟨rfl, rfl, rfl⟩ | ⟨rfl, rfl, rfl⟩ | ⟨rfl, rfl, rfl⟩ | ⟨rfl, rfl, rfl⟩
  all_goals
    go_enter Tryd.func50, Tryd.ntmps50
    go_wp2
    go_ret
    exact ⟨rfl, rfl⟩

set_option maxHeartbeats 400000 in
theorem tz (w : World) (h : Tabs w) (x r i : Int) (hx : (x = 1 ∧ r = 0 ∧ i = 0) ∨ (x = 2 ∧ r = 1 ∧ i = 1) ∨ (x = 4 ∧ r = 2 ∧ i = 3) ∨ (x = 8 ∧ r = 3 ∧ i = 7)) :
    Calls Tryd.prog 45 #[.int .u64 x] w fun e w' => e = .returned (.int .i64 r) ∧ w = w' := by
  have H := Lib.hid (tz64 w h x r i hx)
  clear hx h
  go_enter Tryd.func45, Tryd.ntmps45
  go_wp2_with (go_at_call 50; refine H.out.mono ?_; rintro e w' ⟨rfl, rfl⟩)
  go_ret
  exact ⟨rfl, rfl⟩

/-- The number that is laid: the length's mark in front. -/
def laidN (n : Int) : Nat := match wid n with
  | 1 => n.toNat
  | 2 => n.toNat + 2 ^ 14
  | 4 => n.toNat + 2 ^ 31
  | _ => n.toNat + 3 * 2 ^ 62

/-- Its bytes, the highest first. -/
def encI (n : Int) : List Int := (List.range (wid n)).map fun j => ((laidN n / 2 ^ (8 * (wid n - 1 - j)) % 256 : Nat) : Int)


/-- The k-th byte from the end of a number's bytes. -/
def byt (L k : Nat) : Int := (L : Int) / 2 ^ (8 * k) % 256
def encL (W L : Nat) : List Value := (List.range W).map fun j => .int .u8 (byt L (W - 1 - j))
theorem encL_snoc (W L k : Nat) (h : k + 1 ≤ W) (xs : List Value) :
    (xs ++ (List.range (W - (k + 1))).map fun j => Value.int .u8 (byt L (W - 1 - j))) ++ [.int .u8 (byt L k)] = xs ++ (List.range (W - k)).map fun j => Value.int .u8 (byt L (W - 1 - j)) := by
  rw [show W - k = (W - (k + 1)) + 1 by omega, List.range_succ, List.map_append, List.append_assoc]
  congr 3
  simp only [List.map_cons, List.map_nil]
  rw [show W - 1 - (W - (k + 1)) = k by omega]

set_option maxHeartbeats 1000000 in
theorem lay_1 (n : Int) (L : Nat) (w : World) (h : Tabs w) (base : Nat) (v : Value) (m : Nat) (xs : List Value) (hown : w.ownsRow base 5 1 v m xs) (hm : m + 1 ≤ 140737488355328) (hbase : base ≤ w.heap.size)
    (hw : ((wid n : Nat) : Int) = 1) (hL : bits .or .u64 (IntKind.u64.wrap n) 0 = (L : Int)) :
    Calls Tryd.prog 30 #[v, .int .i64 n] w fun e w' => ∃ v', e = .returned v' ∧ w'.ownsRow base 5 1 v' (m + 1) (xs ++ encL 1 L) ∧ Below base w w' := by
  have H := Lib.hid (tz w h 1 0 0 (.inl ⟨rfl, rfl, rfl⟩))
  have HO := Lib.hid hown
  clear hown h
  obtain ⟨i0, hi, hz0, hz1, hz2⟩ := info_parts infoB
  have HI := Lib.hid (And.intro hi (And.intro hz0 (And.intro hz1 hz2)))
  clear hi hz0 hz1 hz2
  go_enter Tryd.func30, Tryd.ntmps30
  go_wp2_with (first | (go_at_call 39; refine (width_any _ _).mono ?_; rintro e w' ⟨rfl, rfl⟩) | (go_at_call 45; refine H.out.mono ?_; rintro e w' ⟨rfl, rfl⟩))
  go_loopw [0, 8] (fun v i wr => ∃ r : Nat, r ≤ 1 ∧ i = .int .i64 ((r : Int) - 1) ∧ Hid (wr.ownsRow base 5 1 v (m + (1 - r)) (xs ++ ((List.range (1 - r)).map fun j => Value.int .u8 (byt L (1 - 1 - j)))) ∧ Below base w wr)) (fun _ i _ => (intOf i + 1).toNat)
  case atStart => exact ⟨1, by omega, by go_num, by simpa using HO.out, Below.refl _ _⟩
  case round =>
    obtain ⟨r, hr, rfl, HR⟩ := hrel
    rcases Nat.eq_zero_or_pos r with h0 | h0
    · subst h0
      go_wp2
      go_ret
      exact ⟨_, rfl, by simpa [encL] using HR.out.1, HR.out.2⟩
    · obtain ⟨k, rfl⟩ : ∃ k, r = k + 1 := ⟨r - 1, by omega⟩
      have hk : (0 : Int) ≤ k := by omega
      obtain ⟨M, X, HE, HM, HR⟩ : ∃ M X, Hid (M = m + (1 - (k + 1)) ∧ X = xs ++ ((List.range (1 - (k + 1))).map fun j => Value.int .u8 (byt L (1 - 1 - j)))) ∧ M + 1 ≤ 140737488355328 ∧ Hid (wr.ownsRow base 5 1 u0 M X ∧ Below base w wr) := ⟨_, _, ⟨rfl, rfl⟩, by omega, HR.out⟩
      go_wp2_with (at_builtin; refine wpList_append_own _ rfl _ _ 24 rfl base 5 i0 (.int .u8 0) 1 1 Tryd.underlying24 HI.out.1 HI.out.2.1 HI.out.2.2.1 HI.out.2.2.2 rfl (by decide) _ _ _ rfl (HR.out.1.alloc _) ⟨wr.heap.size, 0, none⟩ 1 1 [.int .u8 ((L : Int) / 2 ^ (8 * k) % 256)] rfl rfl ?c1 ?c2 ?c3 ?c4 ?c5 ?_)
      case c1 => exact cell_one_new _ _ _
      case c2 => simp [Value.oneCell']
      case c3 => unfold maxLen; omega
      case c4 => omega
      case c5 => have := HR.out.2.size; simp; omega
      intro v1 w1 hown1 hgrow1 _
      have HN : Hid (w1.ownsRow base 5 1 v1 (m + (1 - k)) (xs ++ ((List.range (1 - k)).map fun j => Value.int .u8 (byt L (1 - 1 - j)))) ∧ Below base w w1) := by
        have e := encL_snoc 1 L k hr xs
        have e2 : M + 1 = m + (1 - k) := by have := HE.out.1; omega
        rw [e2, HE.out.2] at hown1
        refine ⟨?_, ?_⟩
        · rw [← e]; exact hown1
        · have hsz := HR.out.2.size
          exact (HR.out.2.alloc (by omega) _).grown hgrow1 (by simp; omega) (fun g hg => (HR.out.1.lt g hg).1)
      clear hown1 hgrow1
      go_wp2
      go_roundw
      case rel => exact ⟨k, by omega, by go_num, HN⟩
      case measure => simp [intOf]

set_option maxHeartbeats 1000000 in
theorem lay_2 (n : Int) (L : Nat) (w : World) (h : Tabs w) (base : Nat) (v : Value) (m : Nat) (xs : List Value) (hown : w.ownsRow base 5 1 v m xs) (hm : m + 2 ≤ 140737488355328) (hbase : base ≤ w.heap.size)
    (hw : ((wid n : Nat) : Int) = 2) (hL : bits .or .u64 (IntKind.u64.wrap n) 16384 = (L : Int)) :
    Calls Tryd.prog 30 #[v, .int .i64 n] w fun e w' => ∃ v', e = .returned v' ∧ w'.ownsRow base 5 1 v' (m + 2) (xs ++ encL 2 L) ∧ Below base w w' := by
  have H := Lib.hid (tz w h 2 1 1 (.inr (.inl ⟨rfl, rfl, rfl⟩)))
  have HO := Lib.hid hown
  clear hown h
  obtain ⟨i0, hi, hz0, hz1, hz2⟩ := info_parts infoB
  have HI := Lib.hid (And.intro hi (And.intro hz0 (And.intro hz1 hz2)))
  clear hi hz0 hz1 hz2
  go_enter Tryd.func30, Tryd.ntmps30
  go_wp2_with (first | (go_at_call 39; refine (width_any _ _).mono ?_; rintro e w' ⟨rfl, rfl⟩) | (go_at_call 45; refine H.out.mono ?_; rintro e w' ⟨rfl, rfl⟩))
  go_loopw [0, 8] (fun v i wr => ∃ r : Nat, r ≤ 2 ∧ i = .int .i64 ((r : Int) - 1) ∧ Hid (wr.ownsRow base 5 1 v (m + (2 - r)) (xs ++ ((List.range (2 - r)).map fun j => Value.int .u8 (byt L (2 - 1 - j)))) ∧ Below base w wr)) (fun _ i _ => (intOf i + 1).toNat)
  case atStart => exact ⟨2, by omega, by go_num, by simpa using HO.out, Below.refl _ _⟩
  case round =>
    obtain ⟨r, hr, rfl, HR⟩ := hrel
    rcases Nat.eq_zero_or_pos r with h0 | h0
    · subst h0
      go_wp2
      go_ret
      exact ⟨_, rfl, by simpa [encL] using HR.out.1, HR.out.2⟩
    · obtain ⟨k, rfl⟩ : ∃ k, r = k + 1 := ⟨r - 1, by omega⟩
      have hk : (0 : Int) ≤ k := by omega
      obtain ⟨M, X, HE, HM, HR⟩ : ∃ M X, Hid (M = m + (2 - (k + 1)) ∧ X = xs ++ ((List.range (2 - (k + 1))).map fun j => Value.int .u8 (byt L (2 - 1 - j)))) ∧ M + 1 ≤ 140737488355328 ∧ Hid (wr.ownsRow base 5 1 u0 M X ∧ Below base w wr) := ⟨_, _, ⟨rfl, rfl⟩, by omega, HR.out⟩
      go_wp2_with (at_builtin; refine wpList_append_own _ rfl _ _ 24 rfl base 5 i0 (.int .u8 0) 1 1 Tryd.underlying24 HI.out.1 HI.out.2.1 HI.out.2.2.1 HI.out.2.2.2 rfl (by decide) _ _ _ rfl (HR.out.1.alloc _) ⟨wr.heap.size, 0, none⟩ 1 1 [.int .u8 ((L : Int) / 2 ^ (8 * k) % 256)] rfl rfl ?c1 ?c2 ?c3 ?c4 ?c5 ?_)
      case c1 => exact cell_one_new _ _ _
      case c2 => simp [Value.oneCell']
      case c3 => unfold maxLen; omega
      case c4 => omega
      case c5 => have := HR.out.2.size; simp; omega
      intro v1 w1 hown1 hgrow1 _
      have HN : Hid (w1.ownsRow base 5 1 v1 (m + (2 - k)) (xs ++ ((List.range (2 - k)).map fun j => Value.int .u8 (byt L (2 - 1 - j)))) ∧ Below base w w1) := by
        have e := encL_snoc 2 L k hr xs
        have e2 : M + 1 = m + (2 - k) := by have := HE.out.1; omega
        rw [e2, HE.out.2] at hown1
        refine ⟨?_, ?_⟩
        · rw [← e]; exact hown1
        · have hsz := HR.out.2.size
          exact (HR.out.2.alloc (by omega) _).grown hgrow1 (by simp; omega) (fun g hg => (HR.out.1.lt g hg).1)
      clear hown1 hgrow1
      go_wp2
      go_roundw
      case rel => exact ⟨k, by omega, by go_num, HN⟩
      case measure => simp [intOf]

set_option maxHeartbeats 1000000 in
theorem lay_4 (n : Int) (L : Nat) (w : World) (h : Tabs w) (base : Nat) (v : Value) (m : Nat) (xs : List Value) (hown : w.ownsRow base 5 1 v m xs) (hm : m + 4 ≤ 140737488355328) (hbase : base ≤ w.heap.size)
    (hw : ((wid n : Nat) : Int) = 4) (hL : bits .or .u64 (IntKind.u64.wrap n) 2147483648 = (L : Int)) :
    Calls Tryd.prog 30 #[v, .int .i64 n] w fun e w' => ∃ v', e = .returned v' ∧ w'.ownsRow base 5 1 v' (m + 4) (xs ++ encL 4 L) ∧ Below base w w' := by
  have H := Lib.hid (tz w h 4 2 3 (.inr (.inr (.inl ⟨rfl, rfl, rfl⟩))))
  have HO := Lib.hid hown
  clear hown h
  obtain ⟨i0, hi, hz0, hz1, hz2⟩ := info_parts infoB
  have HI := Lib.hid (And.intro hi (And.intro hz0 (And.intro hz1 hz2)))
  clear hi hz0 hz1 hz2
  go_enter Tryd.func30, Tryd.ntmps30
  go_wp2_with (first | (go_at_call 39; refine (width_any _ _).mono ?_; rintro e w' ⟨rfl, rfl⟩) | (go_at_call 45; refine H.out.mono ?_; rintro e w' ⟨rfl, rfl⟩))
  go_loopw [0, 8] (fun v i wr => ∃ r : Nat, r ≤ 4 ∧ i = .int .i64 ((r : Int) - 1) ∧ Hid (wr.ownsRow base 5 1 v (m + (4 - r)) (xs ++ ((List.range (4 - r)).map fun j => Value.int .u8 (byt L (4 - 1 - j)))) ∧ Below base w wr)) (fun _ i _ => (intOf i + 1).toNat)
  case atStart => exact ⟨4, by omega, by go_num, by simpa using HO.out, Below.refl _ _⟩
  case round =>
    obtain ⟨r, hr, rfl, HR⟩ := hrel
    rcases Nat.eq_zero_or_pos r with h0 | h0
    · subst h0
      go_wp2
      go_ret
      exact ⟨_, rfl, by simpa [encL] using HR.out.1, HR.out.2⟩
    · obtain ⟨k, rfl⟩ : ∃ k, r = k + 1 := ⟨r - 1, by omega⟩
      have hk : (0 : Int) ≤ k := by omega
      obtain ⟨M, X, HE, HM, HR⟩ : ∃ M X, Hid (M = m + (4 - (k + 1)) ∧ X = xs ++ ((List.range (4 - (k + 1))).map fun j => Value.int .u8 (byt L (4 - 1 - j)))) ∧ M + 1 ≤ 140737488355328 ∧ Hid (wr.ownsRow base 5 1 u0 M X ∧ Below base w wr) := ⟨_, _, ⟨rfl, rfl⟩, by omega, HR.out⟩
      go_wp2_with (at_builtin; refine wpList_append_own _ rfl _ _ 24 rfl base 5 i0 (.int .u8 0) 1 1 Tryd.underlying24 HI.out.1 HI.out.2.1 HI.out.2.2.1 HI.out.2.2.2 rfl (by decide) _ _ _ rfl (HR.out.1.alloc _) ⟨wr.heap.size, 0, none⟩ 1 1 [.int .u8 ((L : Int) / 2 ^ (8 * k) % 256)] rfl rfl ?c1 ?c2 ?c3 ?c4 ?c5 ?_)
      case c1 => exact cell_one_new _ _ _
      case c2 => simp [Value.oneCell']
      case c3 => unfold maxLen; omega
      case c4 => omega
      case c5 => have := HR.out.2.size; simp; omega
      intro v1 w1 hown1 hgrow1 _
      have HN : Hid (w1.ownsRow base 5 1 v1 (m + (4 - k)) (xs ++ ((List.range (4 - k)).map fun j => Value.int .u8 (byt L (4 - 1 - j)))) ∧ Below base w w1) := by
        have e := encL_snoc 4 L k hr xs
        have e2 : M + 1 = m + (4 - k) := by have := HE.out.1; omega
        rw [e2, HE.out.2] at hown1
        refine ⟨?_, ?_⟩
        · rw [← e]; exact hown1
        · have hsz := HR.out.2.size
          exact (HR.out.2.alloc (by omega) _).grown hgrow1 (by simp; omega) (fun g hg => (HR.out.1.lt g hg).1)
      clear hown1 hgrow1
      go_wp2
      go_roundw
      case rel => exact ⟨k, by omega, by go_num, HN⟩
      case measure => simp [intOf]

set_option maxHeartbeats 1000000 in
theorem lay_8 (n : Int) (L : Nat) (w : World) (h : Tabs w) (base : Nat) (v : Value) (m : Nat) (xs : List Value) (hown : w.ownsRow base 5 1 v m xs) (hm : m + 8 ≤ 140737488355328) (hbase : base ≤ w.heap.size)
    (hw : ((wid n : Nat) : Int) = 8) (hL : bits .or .u64 (IntKind.u64.wrap n) 13835058055282163712 = (L : Int)) :
    Calls Tryd.prog 30 #[v, .int .i64 n] w fun e w' => ∃ v', e = .returned v' ∧ w'.ownsRow base 5 1 v' (m + 8) (xs ++ encL 8 L) ∧ Below base w w' := by
  have H := Lib.hid (tz w h 8 3 7 (.inr (.inr (.inr ⟨rfl, rfl, rfl⟩))))
  have HO := Lib.hid hown
  clear hown h
  obtain ⟨i0, hi, hz0, hz1, hz2⟩ := info_parts infoB
  have HI := Lib.hid (And.intro hi (And.intro hz0 (And.intro hz1 hz2)))
  clear hi hz0 hz1 hz2
  go_enter Tryd.func30, Tryd.ntmps30
  go_wp2_with (first | (go_at_call 39; refine (width_any _ _).mono ?_; rintro e w' ⟨rfl, rfl⟩) | (go_at_call 45; refine H.out.mono ?_; rintro e w' ⟨rfl, rfl⟩))
  go_loopw [0, 8] (fun v i wr => ∃ r : Nat, r ≤ 8 ∧ i = .int .i64 ((r : Int) - 1) ∧ Hid (wr.ownsRow base 5 1 v (m + (8 - r)) (xs ++ ((List.range (8 - r)).map fun j => Value.int .u8 (byt L (8 - 1 - j)))) ∧ Below base w wr)) (fun _ i _ => (intOf i + 1).toNat)
  case atStart => exact ⟨8, by omega, by go_num, by simpa using HO.out, Below.refl _ _⟩
  case round =>
    obtain ⟨r, hr, rfl, HR⟩ := hrel
    rcases Nat.eq_zero_or_pos r with h0 | h0
    · subst h0
      go_wp2
      go_ret
      exact ⟨_, rfl, by simpa [encL] using HR.out.1, HR.out.2⟩
    · obtain ⟨k, rfl⟩ : ∃ k, r = k + 1 := ⟨r - 1, by omega⟩
      have hk : (0 : Int) ≤ k := by omega
      obtain ⟨M, X, HE, HM, HR⟩ : ∃ M X, Hid (M = m + (8 - (k + 1)) ∧ X = xs ++ ((List.range (8 - (k + 1))).map fun j => Value.int .u8 (byt L (8 - 1 - j)))) ∧ M + 1 ≤ 140737488355328 ∧ Hid (wr.ownsRow base 5 1 u0 M X ∧ Below base w wr) := ⟨_, _, ⟨rfl, rfl⟩, by omega, HR.out⟩
      go_wp2_with (at_builtin; refine wpList_append_own _ rfl _ _ 24 rfl base 5 i0 (.int .u8 0) 1 1 Tryd.underlying24 HI.out.1 HI.out.2.1 HI.out.2.2.1 HI.out.2.2.2 rfl (by decide) _ _ _ rfl (HR.out.1.alloc _) ⟨wr.heap.size, 0, none⟩ 1 1 [.int .u8 ((L : Int) / 2 ^ (8 * k) % 256)] rfl rfl ?c1 ?c2 ?c3 ?c4 ?c5 ?_)
      case c1 => exact cell_one_new _ _ _
      case c2 => simp [Value.oneCell']
      case c3 => unfold maxLen; omega
      case c4 => omega
      case c5 => have := HR.out.2.size; simp; omega
      intro v1 w1 hown1 hgrow1 _
      have HN : Hid (w1.ownsRow base 5 1 v1 (m + (8 - k)) (xs ++ ((List.range (8 - k)).map fun j => Value.int .u8 (byt L (8 - 1 - j)))) ∧ Below base w w1) := by
        have e := encL_snoc 8 L k hr xs
        have e2 : M + 1 = m + (8 - k) := by have := HE.out.1; omega
        rw [e2, HE.out.2] at hown1
        refine ⟨?_, ?_⟩
        · rw [← e]; exact hown1
        · have hsz := HR.out.2.size
          exact (HR.out.2.alloc (by omega) _).grown hgrow1 (by simp; omega) (fun g hg => (HR.out.1.lt g hg).1)
      clear hown1 hgrow1
      go_wp2
      go_roundw
      case rel => exact ⟨k, by omega, by go_num, HN⟩
      case measure => simp [intOf]

end Go.Proofs.YtnhkenecogjeaaaDoor
