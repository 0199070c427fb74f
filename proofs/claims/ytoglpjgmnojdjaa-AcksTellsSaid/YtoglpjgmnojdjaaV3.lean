/- A number laid as bytes; fresh, Put. Conditions: as each theorem lists them. -/
import Derived.Test.YtoglpjgmnojdjaaV2
import Derived.Test.YtoglpjgmnojdjaaAm7
import Derived.Laws.BitsAllLaws
import Derived.Laws.MakeOwn
set_option linter.unusedSimpArgs false
set_option linter.unusedVariables false
namespace Go.Proofs.Ytoglpjgmnojdjaa
open Go Go.RowKit

/-- A number's bytes. -/
def encV (n : Int) : List Value := encL (wid n) (laidN n)
theorem encV_len (n : Int) : (encV n).length = wid n := by simp [encV, encL]

theorem or_add (n s k : Nat) (h : n < 2 ^ k) : n ||| s * 2 ^ k = n + s * 2 ^ k := by
  have := Nat.shiftLeft_add_eq_or_of_lt h s
  rw [Nat.shiftLeft_eq] at this
  rw [Nat.or_comm, ← this, Nat.add_comm]

theorem wrap_u64_in (n : Int) (h : 0 ≤ n) (h2 : n < 18446744073709551616) : IntKind.u64.wrap n = n := by
  have : IntKind.u64.wrap n = n % 18446744073709551616 := rfl
  rw [this]; omega

theorem wid_cases (n : Int) (h : wid n ≠ 0) : (wid n = 1 ∧ 0 ≤ n ∧ n < 64) ∨ (wid n = 2 ∧ 64 ≤ n ∧ n < 16384) ∨ (wid n = 4 ∧ 16384 ≤ n ∧ n < 1073741824) ∨ (wid n = 8 ∧ 1073741824 ≤ n ∧ n ≤ 4611686018427387903) := by
  unfold wid at h ⊢
  split at h
  · exact absurd rfl h
  · rename_i h0
    rw [if_neg h0]
    split
    · left; exact ⟨rfl, by omega, by assumption⟩
    · split
      · right; left; exact ⟨rfl, by omega, by assumption⟩
      · split
        · right; right; left; exact ⟨rfl, by omega, by assumption⟩
        · right; right; right; exact ⟨rfl, by omega, by omega⟩

theorem or_of (n : Int) (k s : Nat) (h0 : 0 ≤ n) (h : n.toNat < 2 ^ k) (h2 : n < 18446744073709551616) (h3 : s * 2 ^ k < 18446744073709551616) : bits .or .u64 (IntKind.u64.wrap n) ((s * 2 ^ k : Nat) : Int) = ((n.toNat + s * 2 ^ k : Nat) : Int) := by
  rw [wrap_u64_in n h0 h2]
  obtain ⟨m, rfl⟩ := Int.eq_ofNat_of_zero_le h0
  rw [u64_or_nat m _ (by omega) h3]
  simp only [Int.toNat_natCast] at h ⊢
  rw [or_add m s k h]

theorem ones_enc (n : Int) : ones (encV n) := fun u hu => by
  unfold encV encL at hu
  rw [List.mem_map] at hu
  obtain ⟨j, _, rfl⟩ := hu
  rfl

/-- What a call of Put with numbers that may be lays. -/
def encs (l : List Int) : List Value := l.flatMap encV
theorem encs_len (l : List Int) : (encs l).length = sumW l := by
  induction l with
  | nil => rfl
  | cons n l ih => simp only [encs, List.flatMap_cons, List.length_append, encV_len, sumW, List.map_cons, List.sum_cons] at ih ⊢; omega
theorem encs_snoc (l : List Int) (n : Int) : encs (l ++ [n]) = encs l ++ encV n := by simp [encs]
theorem ones_encs (l : List Int) : ones (encs l) := fun u hu => by
  unfold encs at hu
  rw [List.mem_flatMap] at hu
  obtain ⟨n, _, h⟩ := hu
  exact ones_enc n u h

/-- Size of whatever list. -/
theorem size_any (l : List Int) (B : Nat) (A : Option Addr) (cap : Nat) (w : World) (hA : l.length = 0 → cap = 0 ∧ A = none ∨ ∃ b off, A = some ⟨b, off, none⟩) (hx : Rd w B A l.length (ints l)) (hl : l.length < 1000000000000000) :
    Calls Try.prog 61 #[.slice A l.length cap] w fun e w' => e = .returned (.int .i64 (if allMay l then (sumW l : Int) else -1)) ∧ w = w' := by
  have key : (∃ b off, A = some ⟨b, off, none⟩ ∧ ∀ j, j < l.length → w.cell? ⟨b, off + j, none⟩ = some (.int .i64 (l.getD j 0))) → Calls Try.prog 61 #[.slice A l.length cap] w fun e w' => e = .returned (.int .i64 (if allMay l then (sumW l : Int) else -1)) ∧ w = w' := by
    rintro ⟨b, off, rfl, hc⟩
    by_cases hm : allMay l
    · rw [if_pos hm]; exact size_ok l b off cap w hl hc hm
    · rw [if_neg hm]; exact size_no l b off cap w hl hc hm
  rcases Nat.eq_zero_or_pos l.length with h0 | h0
  · rcases hA h0 with ⟨rfl, rfl⟩ | ⟨b, off, rfl⟩
    · have : l = [] := List.eq_nil_of_length_eq_zero h0
      subst this
      rw [if_pos (show allMay [] from fun n hn => by cases hn)]
      exact size_nil w
    · exact key ⟨b, off, rfl, fun j hj => by omega⟩
  · obtain ⟨b, off, rfl, _, hc⟩ := hx.2 h0
    exact key ⟨b, off, rfl, fun j hj => hc j _ (ints_get l j hj)⟩

theorem Tabs.below {w w' : World} {B : Nat} (h : Tabs w) (hb : Below B w w') (hB : 1 < B) : Tabs w' :=
  ⟨(hb.cell (p := ⟨1, 0, none⟩) hB).trans h.c0, (hb.cell (p := ⟨1, 1, none⟩) hB).trans h.c1, (hb.cell (p := ⟨1, 3, none⟩) hB).trans h.c3, (hb.cell (p := ⟨1, 7, none⟩) hB).trans h.c7⟩
theorem Tabs.lt {w : World} (h : Tabs w) : 1 < w.heap.size := World.block_lt_of_cell? w _ h.c0

theorem sumW_app (a b : List Int) : sumW (a ++ b) = sumW a + sumW b := by simp [sumW]

end Go.Proofs.Ytoglpjgmnojdjaa
