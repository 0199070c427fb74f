/- A number laid as bytes; fresh, Put. Conditions: as each theorem lists them. -/
import Derived.Test.YtnhkenecogjeaaaDoorV2
import Derived.Test.YtnhkenecogjeaaaDoorAm7
import Derived.Laws.BitsAllLaws
import Derived.Laws.MakeOwn
namespace Go.Proofs.YtnhkenecogjeaaaDoor
open Go Go.RowKit

/-- A number's bytes. -/
def encV (n : Int) : List Value := encL (wid n) (laidN n)
theorem encV_len (n : Int) : (encV n).length = wid n := by simp [encV, encL]

theorem or_add (n s k : Nat) (h : n < 2 ^ k) : n ||| s * 2 ^ k = n + s * 2 ^ k := by
  have := Nat.shiftLeft_add_eq_or_of_lt h s
  rw [Nat.shiftLeft_eq] at this
  rw [Nat.or_comm, ← this, Nat.add_comm]

theorem wrap_u64_in (n : Int) (h : 0 ≤ n) (h2 : n < 18446744073709551616) : IntKind.u64.wrap n = n := by
  have : IntKind.u64.wrap n = n % 18446744073709551616 := rfl
  rw [this]; omega

theorem wid_cases (n : Int) (h : wid n ≠ 0) : (wid n = 1 ∧ 0 ≤ n ∧ n < 64) ∨ (wid n = 2 ∧ 64 ≤ n ∧ n < 16384) ∨ (wid n = 4 ∧ 16384 ≤ n ∧ n < 1073741824) ∨ (wid n = 8 ∧ 1073741824 ≤ n ∧ n ≤ 4611686018427387903) := by
  unfold wid at h ⊢
  split at h
  · exact absurd rfl h
  · rename_i h0
    rw [if_neg h0]
    split
    · left; exact ⟨rfl, by omega, by assumption⟩
    · split
      · right; left; exact ⟨rfl, by omega, by assumption⟩
      · split
        · right; right; left; exact ⟨rfl, by omega, by assumption⟩
        · right; right; right; exact ⟨rfl, by omega, by omega⟩

theorem or_of (n : Int) (k s : Nat) (h0 : 0 ≤ n) (h : n.toNat < 2 ^ k) (h2 : n < 18446744073709551616) (h3 : s * 2 ^ k < 18446744073709551616) : bits .or .u64 (IntKind.u64.wrap n) ((s * 2 ^ k : Nat) : Int) = ((n.toNat + s * 2 ^ k : Nat) : Int) := by
  rw [wrap_u64_in n h0 h2]
  obtain ⟨m, rfl⟩ := Int.eq_ofNat_of_zero_le h0
  rw [u64_or_nat m _ (by omega) h3]
  simp only [Int.toNat_natCast] at h ⊢
  rw [or_add m s k h]

theorem lay_any (n : Int) (w : World) (h : Tabs w) (base : Nat) (v : Value) (m : Nat) (xs : List Value) (hown : w.ownsRow base 5 1 v m xs) (hm : m + wid n ≤ 140737488355328) (hbase : base ≤ w.heap.size) (hn : wid n ≠ 0) :
    Calls Tryd.prog 30 #[v, .int .i64 n] w fun e w' => ∃ v', e = .returned v' ∧ w'.ownsRow base 5 1 v' (m + wid n) (xs ++ encV n) ∧ Below base w w' := by
  rcases wid_cases n hn with ⟨hw, h0, h1⟩ | ⟨hw, h0, h1⟩ | ⟨hw, h0, h1⟩ | ⟨hw, h0, h1⟩
  · have := lay_1 n (laidN n) w h base v m xs hown (by omega) hbase (by rw [hw]; rfl) (by
      have e := or_of n 6 0 h0 (by omega) (by omega) (by decide)
      simp only [laidN, hw]; simpa using e)
    simpa only [encV, hw] using this
  · have := lay_2 n (laidN n) w h base v m xs hown (by omega) hbase (by rw [hw]; rfl) (by
      have e := or_of n 14 1 (by omega) (by omega) (by omega) (by decide)
      simp only [laidN, hw]; simpa using e)
    simpa only [encV, hw] using this
  · have := lay_4 n (laidN n) w h base v m xs hown (by omega) hbase (by rw [hw]; rfl) (by
      have e := or_of n 30 2 (by omega) (by omega) (by omega) (by decide)
      simp only [laidN, hw]; simpa using e)
    simpa only [encV, hw] using this
  · have := lay_8 n (laidN n) w h base v m xs hown (by omega) hbase (by rw [hw]; rfl) (by
      have e := or_of n 62 3 (by omega) (by omega) (by omega) (by decide)
      simp only [laidN, hw]; simpa using e)
    simpa only [encV, hw] using this

theorem ones_enc (n : Int) : ones (encV n) := fun u hu => by
  unfold encV encL at hu
  rw [List.mem_map] at hu
  obtain ⟨j, _, rfl⟩ := hu
  rfl

set_option maxHeartbeats 1000000 in
theorem fresh_any (A : Option Addr) (m c : Nat) (xs : List Value) (B : Nat) (w : World) (hx : Rd w B A m xs) (hB : B ≤ w.heap.size) (h1 : ones xs) (hm : m ≤ 140737488355328) :
    Calls Tryd.prog 52 #[.slice A m c] w fun e w' => ∃ v', e = .returned v' ∧ w'.ownsRow w.heap.size 5 1 v' m xs ∧ Below w.heap.size w w' := by
  have HX := Lib.hid hx
  have H1 := Lib.hid h1
  clear hx h1
  obtain ⟨i0, hi, hz0, hz1, hz2⟩ := info_parts infoB
  have HI := Lib.hid (And.intro hi (And.intro hz0 (And.intro hz1 hz2)))
  have hmk := fun W => run_make (P := Tryd.prog) W 24 5 i0 (.int .u8 0) Tryd.underlying24 hi hz0 .i64 .i64 0 m (by omega) (by omega) (by rw [hz2]; omega) (by omega)
  simp only [hz1, Int.toNat_natCast, Int.toNat_zero, Nat.mul_one] at hmk
  clear hi hz0 hz1 hz2
  have HS : Hid ((madeCells (Value.int .u8 0).cells m).size = m) := size_madeCells _ _
  go_enter Tryd.func52, Tryd.ntmps52
  go_wp2_with (at_builtin; refine wpList_app _ rfl _ _ 24 rfl w.heap.size 5 i0 (.int .u8 0) 1 1 Tryd.underlying24 HI.out.1 HI.out.2.1 HI.out.2.2.1 HI.out.2.2.2 rfl (by decide) _ 0 [] rfl (World.ownsRow_made _ _ m (Nat.le_refl _) ?c1 ?c2) B A m c xs rfl ?c3 H1.out ?c4 ?c5 ?c6 ?_)
  case c1 => unfold maxLen; omega
  case c2 => rw [size_madeCells, Nat.mul_one]
  case c3 => rw [Nat.mul_one]; exact HX.out.below ((Below.refl _ _).alloc hB _) (Nat.le_refl _)
  case c4 => unfold maxLen; omega
  case c5 => omega
  case c6 => simp
  intro v1 w1 hown1 hgrow1
  have HN : Hid (w1.ownsRow w.heap.size 5 1 v1 m xs ∧ Below w.heap.size w w1) := by
    exact ⟨hown1, ((Below.refl _ _).alloc (Nat.le_refl _) _).grown hgrow1 (by simp) (fun g hg => by simp [Value.ownBlock] at hg; omega)⟩
  clear hown1 hgrow1
  go_wp2
  go_ret
  exact ⟨_, rfl, HN.out⟩

/-- What a call of Put with numbers that may be lays. -/
def encs (l : List Int) : List Value := l.flatMap encV
theorem encs_len (l : List Int) : (encs l).length = sumW l := by
  induction l with
  | nil => rfl
  | cons n l ih => simp only [encs, List.flatMap_cons, List.length_append, encV_len, sumW, List.map_cons, List.sum_cons] at ih ⊢; omega
theorem encs_snoc (l : List Int) (n : Int) : encs (l ++ [n]) = encs l ++ encV n := by simp [encs]
theorem ones_encs (l : List Int) : ones (encs l) := fun u hu => by
  unfold encs at hu
  rw [List.mem_flatMap] at hu
  obtain ⟨n, _, h⟩ := hu
  exact ones_enc n u h

/-- Size of whatever list. -/
theorem size_any (l : List Int) (B : Nat) (A : Option Addr) (cap : Nat) (w : World) (hA : l.length = 0 → cap = 0 ∧ A = none ∨ ∃ b off, A = some ⟨b, off, none⟩) (hx : Rd w B A l.length (ints l)) (hl : l.length < 1000000000000000) :
    Calls Tryd.prog 21 #[.slice A l.length cap] w fun e w' => e = .returned (.int .i64 (if allMay l then (sumW l : Int) else -1)) ∧ w = w' := by
  have key : (∃ b off, A = some ⟨b, off, none⟩ ∧ ∀ j, j < l.length → w.cell? ⟨b, off + j, none⟩ = some (.int .i64 (l.getD j 0))) → Calls Tryd.prog 21 #[.slice A l.length cap] w fun e w' => e = .returned (.int .i64 (if allMay l then (sumW l : Int) else -1)) ∧ w = w' := by
    rintro ⟨b, off, rfl, hc⟩
    by_cases hm : allMay l
    · rw [if_pos hm]; exact size_ok l b off cap w hl hc hm
    · rw [if_neg hm]; exact size_no l b off cap w hl hc hm
  rcases Nat.eq_zero_or_pos l.length with h0 | h0
  · rcases hA h0 with ⟨rfl, rfl⟩ | ⟨b, off, rfl⟩
    · have : l = [] := List.eq_nil_of_length_eq_zero h0
      subst this
      rw [if_pos (show allMay [] from fun n hn => by cases hn)]
      exact size_nil w
    · exact key ⟨b, off, rfl, fun j hj => by omega⟩
  · obtain ⟨b, off, rfl, _, hc⟩ := hx.2 h0
    exact key ⟨b, off, rfl, fun j hj => hc j _ (ints_get l j hj)⟩

set_option maxHeartbeats 1000000 in
theorem put_no (A : Option Addr) (m c : Nat) (l : List Int) (B2 : Nat) (A2 : Option Addr) (c2 : Nat) (w : World) (hx2 : Rd w B2 A2 l.length (ints l)) (hA2 : okA A2 l.length c2) (hl : l.length < 1000000000000000) (hm : ¬ allMay l) :
    Calls Tryd.prog 16 #[.slice A m c, .slice A2 l.length c2] w fun e w' => e = .returned (.slice none 0 0) ∧ w = w' := by
  have H := Lib.hid (size_any l B2 A2 c2 w hA2 hx2 hl)
  rw [if_neg hm] at H
  clear hx2 hA2 hm
  go_enter Tryd.func16, Tryd.ntmps16
  go_wp2_with (go_at_call 21; refine H.out.mono ?_; rintro e w' ⟨rfl, rfl⟩)
  go_ret
  exact ⟨rfl, rfl⟩

theorem Tabs.below {w w' : World} {B : Nat} (h : Tabs w) (hb : Below B w w') (hB : 1 < B) : Tabs w' :=
  ⟨(hb.cell (p := ⟨1, 0, none⟩) hB).trans h.c0, (hb.cell (p := ⟨1, 1, none⟩) hB).trans h.c1, (hb.cell (p := ⟨1, 3, none⟩) hB).trans h.c3, (hb.cell (p := ⟨1, 7, none⟩) hB).trans h.c7⟩
theorem Tabs.lt {w : World} (h : Tabs w) : 1 < w.heap.size := World.block_lt_of_cell? w _ h.c0

theorem sumW_app (a b : List Int) : sumW (a ++ b) = sumW a + sumW b := by simp [sumW]

set_option maxHeartbeats 1000000 in
theorem put_ok (A : Option Addr) (m c : Nat) (xs : List Value) (B : Nat) (l : List Int) (B2 : Nat) (A2 : Option Addr) (c2 : Nat) (w : World) (ht : Tabs w) (hx : Rd w B A m xs) (hB : B ≤ w.heap.size) (h1 : ones xs)
    (hx2 : Rd w B2 A2 l.length (ints l)) (hB2 : B2 ≤ w.heap.size) (hA2 : okA A2 l.length c2) (hl : l.length < 1000000000000000) (hm : allMay l) (hz : m + sumW l ≤ 140737488355328) :
    Calls Tryd.prog 16 #[.slice A m c, .slice A2 l.length c2] w fun e w' => ∃ v', e = .returned v' ∧ w'.ownsRow w.heap.size 5 1 v' (m + sumW l) (xs ++ encs l) ∧ Below w.heap.size w w' := by
  have H := Lib.hid (size_any l B2 A2 c2 w hA2 hx2 hl)
  rw [if_pos hm] at H
  have HT := Lib.hid ht
  have HX := Lib.hid hx
  have H1 := Lib.hid h1
  have HX2 := Lib.hid hx2
  have HM := Lib.hid hm
  have hsw : Hid (∀ k, sumW (l.take k) ≤ sumW l) := fun k => by
    have e := congrArg sumW (List.take_append_drop k l)
    rw [sumW_app] at e
    omega
  clear hx2 hm ht hx h1
  obtain ⟨i0, hi, hz0, hz1, hz2⟩ := info_parts infoB
  have HI := Lib.hid (And.intro hi (And.intro hz0 (And.intro hz1 hz2)))
  obtain ⟨N, hN, hN2⟩ : ∃ N : Nat, ((m : Int) + (sumW l : Int) = (N : Int)) ∧ N ≤ 140737488355328 := ⟨m + sumW l, by omega, by omega⟩
  have hmk := fun W => run_make (P := Tryd.prog) W 24 5 i0 (.int .u8 0) Tryd.underlying24 hi hz0 .i64 .i64 0 N (by omega) (by omega) (by rw [hz2]; omega) (by omega)
  simp only [hz1, Int.toNat_natCast, Int.toNat_zero, Nat.mul_one] at hmk
  clear hi hz0 hz1 hz2
  go_enter Tryd.func16, Tryd.ntmps16
  go_wp2_with (first | (go_at_call 21; refine H.out.mono ?_; rintro e w' ⟨rfl, rfl⟩) | (at_builtin; refine wpList_app _ rfl _ _ 24 rfl w.heap.size 5 i0 (.int .u8 0) 1 1 Tryd.underlying24 HI.out.1 HI.out.2.1 HI.out.2.2.1 HI.out.2.2.2 rfl (by decide) _ 0 [] rfl (World.ownsRow_made _ _ N (Nat.le_refl _) ?c1 ?c2) B A m c xs rfl ?c3 H1.out ?c4 ?c5 ?c6 ?_))
  case c1 => unfold maxLen; omega
  case c2 => rw [size_madeCells, Nat.mul_one]
  case c3 => rw [Nat.mul_one]; exact HX.out.below ((Below.refl _ _).alloc hB _) (Nat.le_refl _)
  case c4 => unfold maxLen; omega
  case c5 => omega
  case c6 => simp
  intro v1 w1 hown1 hgrow1
  have HN : Hid (w1.ownsRow w.heap.size 5 1 v1 m xs ∧ Below w.heap.size w w1) :=
    ⟨hown1, ((Below.refl _ _).alloc (Nat.le_refl _) _).grown hgrow1 (by simp) (fun g hg => by simp [Value.ownBlock] at hg; omega)⟩
  clear hown1 hgrow1
  go_wp2
  go_loopw [6, 22] (fun v i wr => ∃ k : Nat, k ≤ l.length ∧ i = .int .i64 k ∧ Hid (wr.ownsRow w.heap.size 5 1 v (m + sumW (l.take k)) (xs ++ encs (l.take k)) ∧ Below w.heap.size w wr)) (fun _ i _ => l.length - (intOf i).toNat)
  case atStart =>
    refine ⟨0, by omega, rfl, ?_⟩
    have e1 : sumW (l.take 0) = 0 := rfl
    have e2 : encs (l.take 0) = [] := rfl
    rw [e1, e2, Nat.add_zero, List.append_nil]
    exact HN
  case round =>
    obtain ⟨k, hk, rfl, HR⟩ := hrel
    by_cases hlt : k < l.length
    · have hpos : 0 < l.length := by omega
      obtain ⟨b2, off2, hA2e, hb2, hc2⟩ := HX2.out.2 hpos
      have HC2 := Lib.hid hc2
      clear hc2
      subst hA2e
      obtain ⟨x, hx, hcell⟩ : ∃ x, Hid (l[k] = x) ∧ wr.cell? ⟨b2, off2 + k, none⟩ = some (.int .i64 x) := ⟨l[k], rfl, by
        rw [HR.out.2.cell (p := ⟨b2, off2 + k, none⟩) (show b2 < w.heap.size by omega)]
        exact HC2.out k _ (by simp [ints, hlt])⟩
      obtain ⟨M, X, HE, HO⟩ : ∃ M X, Hid (M = m + sumW (l.take k) ∧ X = xs ++ encs (l.take k)) ∧ Hid (wr.ownsRow w.heap.size 5 1 u6 M X) := ⟨_, _, ⟨rfl, rfl⟩, HR.out.1⟩
      have hwx : Hid (wid x ≠ 0) := by have := HM.out _ (List.getElem_mem hlt); rw [hx.out] at this; exact this
      have hMx : Hid (M + wid x ≤ 140737488355328) := by
        have h1 := hsw.out (k + 1)
        rw [take_snoc' l k hlt, sumW_snoc, hx.out] at h1
        have := HE.out.1
        show _ ≤ _
        omega
      have HL := Lib.hid (lay_any x wr (HT.out.below HR.out.2 HT.out.lt) w.heap.size u6 M X HO.out hMx.out HR.out.2.size hwx.out)
      go_wp2_with (go_at_call 30; refine HL.out.mono ?_; rintro e w' ⟨v2, rfl, hown2, hb2'⟩)
      have HN2 : Hid (w'.ownsRow w.heap.size 5 1 v2 (m + sumW (l.take (k + 1))) (xs ++ encs (l.take (k + 1))) ∧ Below w.heap.size w w') := by
        rw [take_snoc' l k hlt, sumW_snoc, encs_snoc, hx.out, ← List.append_assoc, ← HE.out.2, ← Nat.add_assoc, ← HE.out.1]
        exact ⟨hown2, HR.out.2.trans hb2'⟩
      clear hown2 hb2'
      go_wp2
      go_roundw
      case rel => exact ⟨k + 1, by omega, by go_num, HN2⟩
      case measure => simp [intOf]; omega
    · go_wp2
      go_ret
      have e : l.take k = l := List.take_of_length_le (by omega)
      have := HR.out
      rw [e] at this
      exact ⟨_, rfl, this⟩
end Go.Proofs.YtnhkenecogjeaaaDoor
