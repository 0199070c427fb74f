/- The round, plainly: samples, estimates, what they keep. Conditions: none. -/
import Derived.Lib.Hide
set_option linter.unusedSimpArgs false
set_option linter.unusedVariables false

namespace Go.Proofs.Ytebfjphmlggacaa.Rtt
open Go

/-- An estimate: smooth, its spread, how often a wait was doubled, whether there was a sample. -/
structure RS where
  sm : Int
  va : Int
  bk : Int
  so : Bool

def r0 : RS := ⟨0, 0, 0, false⟩
def sat (x : Int) : Int := min (max x 1) 1000
def far (a b : Int) : Int := max a b - min a b
def samp (s : RS) (x : Int) : RS := if s.so = true then ⟨s.sm - s.sm / 8 + sat x, s.va - s.va / 4 + far (sat x) (s.sm / 8), 0, true⟩ else ⟨8 * sat x, 2 * sat x, 0, true⟩
def back (s : RS) (b : Int) : RS := ⟨s.sm, s.va, b, s.so⟩
def roundF (s : RS) : Int := if s.so = true then max 1 (s.sm / 8) else 4
def spreadF (s : RS) : Int := if s.so = true then max 1 s.va else 4
def twos (b : Int) : Nat := (min (max b 0) 10).toNat
def waitF (s : RS) : Int := min ((roundF s + spreadF s) * (2 ^ twos s.bk : Nat)) 32
def lateF (s : RS) : Int := roundF s + roundF s / 8 + 1

/-- What samples leave. -/
structure Good (s : RS) : Prop where
  lo : 0 ≤ s.sm
  hi : s.sm ≤ 8007
  v0 : 0 ≤ s.va
  v1 : s.va ≤ 4003
  one : s.so = true → 8 ≤ s.sm

theorem good0 : Good r0 := ⟨by decide, by decide, by decide, by decide, fun h => by cases h⟩
theorem sat_in (x : Int) : 1 ≤ sat x ∧ sat x ≤ 1000 := by unfold sat; omega
theorem Good.samp {s : RS} (h : Good s) (x : Int) : Good (samp s x) := by
  obtain ⟨h1, h2, h3, h4, h5⟩ := h
  have hx := sat_in x
  unfold Rtt.samp
  cases hso : s.so with
  | true =>
    have := h5 hso
    simp only [if_pos]
    refine ⟨?_, ?_, ?_, ?_, fun _ => ?_⟩ <;> simp only [far] <;> omega
  | false =>
    rw [if_neg (by simp)]
    refine ⟨?_, ?_, ?_, ?_, fun _ => ?_⟩ <;> dsimp only <;> omega
theorem Good.back {s : RS} (h : Good s) (b : Int) : Good (back s b) := ⟨h.lo, h.hi, h.v0, h.v1, h.one⟩
theorem samp_so (s : RS) (x : Int) : (samp s x).so = true := by unfold samp; split <;> rfl
theorem samp_bk (s : RS) (x : Int) : (samp s x).bk = 0 := by unfold samp; split <;> rfl
theorem samp_back (s : RS) (b x : Int) : samp (back s b) x = samp s x := rfl
theorem round_back (s : RS) (b : Int) : roundF (back s b) = roundF s := rfl
theorem spread_back (s : RS) (b : Int) : spreadF (back s b) = spreadF s := rfl
theorem late_back (s : RS) (b : Int) : lateF (back s b) = lateF s := rfl
theorem Good.round {s : RS} (h : Good s) : 1 ≤ roundF s ∧ roundF s ≤ 1000 := by
  have := h.lo; have := h.hi
  unfold roundF; split <;> omega
theorem Good.spread {s : RS} (h : Good s) : 1 ≤ spreadF s ∧ spreadF s ≤ 4003 := by
  have := h.v0; have := h.v1
  unfold spreadF; split <;> omega
theorem twos_le (b : Int) : twos b ≤ 10 := by unfold twos; omega
theorem two_pow_le (b : Int) : 1 ≤ 2 ^ twos b ∧ 2 ^ twos b ≤ 1024 := ⟨Nat.one_le_two_pow, Nat.pow_le_pow_right (by decide) (twos_le b)⟩

/-- The same, where each part is cut at the bound ahead of the sum. -/
theorem wait_cut {s : RS} (h : Good s) : min ((min (roundF s) 32 + min (spreadF s) 32) * (2 ^ twos s.bk : Nat)) 32 = waitF s := by
  have h1 := h.round
  have h2 := h.spread
  have h3 := two_pow_le s.bk
  unfold waitF
  generalize roundF s = a at *
  generalize spreadF s = b at *
  generalize 2 ^ twos s.bk = k at *
  have hk : (1 : Int) ≤ (k : Int) := by omega
  by_cases c1 : a ≤ 32
  · by_cases c2 : b ≤ 32
    · rw [Int.min_eq_left c1, Int.min_eq_left c2]
    · have e1 : (32 : Int) ≤ (min a 32 + min b 32) * (k : Int) := by
        have : (32 : Int) * 1 ≤ (min a 32 + min b 32) * (k : Int) := Int.mul_le_mul (by omega) hk (by decide) (by omega)
        omega
      have e2 : (32 : Int) ≤ (a + b) * (k : Int) := by
        have : (32 : Int) * 1 ≤ (a + b) * (k : Int) := Int.mul_le_mul (by omega) hk (by decide) (by omega)
        omega
      omega
  · have e1 : (32 : Int) ≤ (min a 32 + min b 32) * (k : Int) := by
      have : (32 : Int) * 1 ≤ (min a 32 + min b 32) * (k : Int) := Int.mul_le_mul (by omega) hk (by decide) (by omega)
      omega
    have e2 : (32 : Int) ≤ (a + b) * (k : Int) := by
      have : (32 : Int) * 1 ≤ (a + b) * (k : Int) := Int.mul_le_mul (by omega) hk (by decide) (by omega)
      omega
    omega

theorem wait_bounds {s : RS} (h : Good s) : 2 ≤ waitF s ∧ waitF s ≤ 32 := by
  have h1 := h.round
  have h2 := h.spread
  have h3 := two_pow_le s.bk
  have : (2 : Int) * 1 ≤ (roundF s + spreadF s) * (2 ^ twos s.bk : Nat) := Int.mul_le_mul (by omega) (by omega) (by decide) (by omega)
  unfold waitF
  omega

theorem twos_succ (b : Int) (h0 : 0 ≤ b) (h1 : b < 10) : twos (b + 1) = twos b + 1 := by unfold twos; omega
theorem twos_ten (b : Int) (h1 : 10 ≤ b) : twos b = 10 := by unfold twos; omega

/-- One more doubling. -/
theorem wait_next {s : RS} (h : Good s) (b : Int) (h0 : 0 ≤ b) (h1 : b < 10) : waitF (back s (b + 1)) = min (2 * waitF (back s b)) 32 := by
  have h3 := two_pow_le b
  have h4 := h.round
  have h5 := h.spread
  unfold waitF
  rw [round_back, spread_back, round_back, spread_back]
  show min ((roundF s + spreadF s) * (2 ^ twos (b + 1) : Nat)) 32 = min (2 * min ((roundF s + spreadF s) * (2 ^ twos b : Nat)) 32) 32
  rw [twos_succ b h0 h1, Nat.pow_succ, Int.natCast_mul, ← Int.mul_assoc]
  have e : (0 : Int) ≤ (roundF s + spreadF s) * (2 ^ twos b : Nat) := Int.mul_nonneg (by omega) (by omega)
  generalize (roundF s + spreadF s) * (2 ^ twos b : Nat) = z at *
  omega
theorem wait_same {s : RS} (b : Int) (h1 : 10 ≤ b) : waitF (back s (b + 1)) = waitF (back s b) := by
  unfold waitF
  show min ((roundF s + spreadF s) * (2 ^ twos (b + 1) : Nat)) 32 = min ((roundF s + spreadF s) * (2 ^ twos b : Nat)) 32
  rw [twos_ten b h1, twos_ten (b + 1) (by omega)]

/-- A longer sample. -/
theorem samp_grows {s : RS} (h : Good s) (x y : Int) (hxy : x ≤ y) : (samp s x).sm ≤ (samp s y).sm ∧ roundF (samp s x) ≤ roundF (samp s y) := by
  have e : (samp s x).sm ≤ (samp s y).sm := by
    unfold samp sat
    split <;> dsimp only <;> omega
  refine ⟨e, ?_⟩
  unfold roundF
  rw [samp_so, samp_so, if_pos rfl, if_pos rfl]
  omega

/-- Samples that are all alike. -/
def Alike (s : RS) (x : Int) : Prop := s.so = true → s.sm = 8 * x
theorem Alike.samp {s : RS} {x : Int} (h : Alike s x) (h1 : 1 ≤ x) (h2 : x ≤ 1000) : Alike (samp s x) x := fun _ => by
  have e : sat x = x := by unfold sat; omega
  unfold Rtt.samp
  cases hso : s.so with
  | true => have := h hso; simp only [if_pos, e]; omega
  | false => rw [if_neg (by simp), e]
theorem alike_round {s : RS} {x : Int} (h : Alike s x) (hs : s.so = true) (h1 : 1 ≤ x) : roundF s = x := by
  unfold roundF; rw [if_pos hs, h hs]; omega

/-- Samples between a least and a greatest one. -/
def Mid (s : RS) (lo hi : Int) : Prop := s.so = true → 8 * lo - 8 ≤ s.sm ∧ s.sm ≤ 8 * hi + 7
theorem Mid.samp {s : RS} {lo hi x : Int} (h : Mid s lo hi) (h1 : 1 ≤ x) (h2 : x ≤ 40) : Mid (samp s x) (min lo x) (max hi x) := fun _ => by
  have e : sat x = x := by unfold sat; omega
  unfold Rtt.samp
  cases hso : s.so with
  | true => have := h hso; simp only [if_pos, e]; omega
  | false => rw [if_neg (by simp), e]; dsimp only; omega
theorem mid_round {s : RS} {lo hi : Int} (h : Mid s lo hi) (hs : s.so = true) (h1 : 1 ≤ hi) : max 1 (lo - 1) ≤ roundF s ∧ roundF s ≤ hi := by
  have := h hs
  unfold roundF; rw [if_pos hs]; omega
end Go.Proofs.Ytebfjphmlggacaa.Rtt
