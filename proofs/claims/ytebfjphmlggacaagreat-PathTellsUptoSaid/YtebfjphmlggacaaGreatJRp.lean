/- Joined texts. The round, plainly: samples, estimates, what they keep. Conditions: none. Rtt in memory, at any place of any block; the program's calls. Conditions: as each theorem lists them. Rtt: follow, Sample, Wait, Late. Conditions: as each theorem lists them. -/
import Derived.Lib.Hide
import Derived.Test.YtebfjphmlggacaaGreatJH1
import Derived.Below
import Derived.WalkKit
import Derived.WalkLawsBesides
import Derived.IntWalk
import Derived.StillTailTactics
set_option linter.unusedSimpArgs false
set_option linter.unusedVariables false

namespace Go.Proofs.YtebfjphmlggacaaGreat.Rtt
open Go

/-- An estimate: smooth, its spread, how often a wait was doubled, whether there was a sample. -/
structure RS where
  sm : Int
  va : Int
  bk : Int
  so : Bool

def r0 : RS := ⟨0, 0, 0, false⟩
def sat (x : Int) : Int := min (max x 1) 1000
def far (a b : Int) : Int := max a b - min a b
def samp (s : RS) (x : Int) : RS := if s.so = true then ⟨s.sm - s.sm / 8 + sat x, s.va - s.va / 4 + far (sat x) (s.sm / 8), 0, true⟩ else ⟨8 * sat x, 2 * sat x, 0, true⟩
def back (s : RS) (b : Int) : RS := ⟨s.sm, s.va, b, s.so⟩
def roundF (s : RS) : Int := if s.so = true then max 1 (s.sm / 8) else 4
def spreadF (s : RS) : Int := if s.so = true then max 1 s.va else 4
def twos (b : Int) : Nat := (min (max b 0) 10).toNat
def waitF (s : RS) : Int := min ((roundF s + spreadF s) * (2 ^ twos s.bk : Nat)) 32
def lateF (s : RS) : Int := roundF s + roundF s / 8 + 1

/-- What samples leave. -/
structure Good (s : RS) : Prop where
  lo : 0 ≤ s.sm
  hi : s.sm ≤ 8007
  v0 : 0 ≤ s.va
  v1 : s.va ≤ 4003
  one : s.so = true → 8 ≤ s.sm

theorem good0 : Good r0 := ⟨by decide, by decide, by decide, by decide, fun h => by cases h⟩
theorem sat_in (x : Int) : 1 ≤ sat x ∧ sat x ≤ 1000 := by unfold sat; omega
theorem Good.samp {s : RS} (h : Good s) (x : Int) : Good (samp s x) := by
  obtain ⟨h1, h2, h3, h4, h5⟩ := h
  have hx := sat_in x
  unfold Rtt.samp
  cases hso : s.so with
  | true =>
    have := h5 hso
    simp only [if_pos]
    refine ⟨?_, ?_, ?_, ?_, fun _ => ?_⟩ <;> simp only [far] <;> omega
  | false =>
    rw [if_neg (by simp)]
    refine ⟨?_, ?_, ?_, ?_, fun _ => ?_⟩ <;> dsimp only <;> omega
theorem Good.back {s : RS} (h : Good s) (b : Int) : Good (back s b) := ⟨h.lo, h.hi, h.v0, h.v1, h.one⟩
theorem samp_so (s : RS) (x : Int) : (samp s x).so = true := by unfold samp; split <;> rfl
theorem samp_bk (s : RS) (x : Int) : (samp s x).bk = 0 := by unfold samp; split <;> rfl
theorem samp_back (s : RS) (b x : Int) : samp (back s b) x = samp s x := rfl
theorem round_back (s : RS) (b : Int) : roundF (back s b) = roundF s := rfl
theorem spread_back (s : RS) (b : Int) : spreadF (back s b) = spreadF s := rfl
theorem late_back (s : RS) (b : Int) : lateF (back s b) = lateF s := rfl
theorem Good.round {s : RS} (h : Good s) : 1 ≤ roundF s ∧ roundF s ≤ 1000 := by
  have := h.lo; have := h.hi
  unfold roundF; split <;> omega
theorem Good.spread {s : RS} (h : Good s) : 1 ≤ spreadF s ∧ spreadF s ≤ 4003 := by
  have := h.v0; have := h.v1
  unfold spreadF; split <;> omega
theorem twos_le (b : Int) : twos b ≤ 10 := by unfold twos; omega
theorem two_pow_le (b : Int) : 1 ≤ 2 ^ twos b ∧ 2 ^ twos b ≤ 1024 := ⟨Nat.one_le_two_pow, Nat.pow_le_pow_right (by decide) (twos_le b)⟩

/-- The same, where each part is cut at the bound ahead of the sum. -/
theorem wait_cut {s : RS} (h : Good s) : min ((min (roundF s) 32 + min (spreadF s) 32) * (2 ^ twos s.bk : Nat)) 32 = waitF s := by
  have h1 := h.round
  have h2 := h.spread
  have h3 := two_pow_le s.bk
  unfold waitF
  generalize roundF s = a at *
  generalize spreadF s = b at *
  generalize 2 ^ twos s.bk = k at *
  have hk : (1 : Int) ≤ (k : Int) := by omega
  by_cases c1 : a ≤ 32
  · by_cases c2 : b ≤ 32
    · rw [Int.min_eq_left c1, Int.min_eq_left c2]
    · have e1 : (32 : Int) ≤ (min a 32 + min b 32) * (k : Int) := by
        have : (32 : Int) * 1 ≤ (min a 32 + min b 32) * (k : Int) := Int.mul_le_mul (by omega) hk (by decide) (by omega)
        omega
      have e2 : (32 : Int) ≤ (a + b) * (k : Int) := by
        have : (32 : Int) * 1 ≤ (a + b) * (k : Int) := Int.mul_le_mul (by omega) hk (by decide) (by omega)
        omega
      omega
  · have e1 : (32 : Int) ≤ (min a 32 + min b 32) * (k : Int) := by
      have : (32 : Int) * 1 ≤ (min a 32 + min b 32) * (k : Int) := Int.mul_le_mul (by omega) hk (by decide) (by omega)
      omega
    have e2 : (32 : Int) ≤ (a + b) * (k : Int) := by
      have : (32 : Int) * 1 ≤ (a + b) * (k : Int) := Int.mul_le_mul (by omega) hk (by decide) (by omega)
      omega
    omega

theorem wait_bounds {s : RS} (h : Good s) : 2 ≤ waitF s ∧ waitF s ≤ 32 := by
  have h1 := h.round
  have h2 := h.spread
  have h3 := two_pow_le s.bk
  have : (2 : Int) * 1 ≤ (roundF s + spreadF s) * (2 ^ twos s.bk : Nat) := Int.mul_le_mul (by omega) (by omega) (by decide) (by omega)
  unfold waitF
  omega

theorem twos_succ (b : Int) (h0 : 0 ≤ b) (h1 : b < 10) : twos (b + 1) = twos b + 1 := by unfold twos; omega
theorem twos_ten (b : Int) (h1 : 10 ≤ b) : twos b = 10 := by unfold twos; omega

/-- One more doubling. -/
theorem wait_next {s : RS} (h : Good s) (b : Int) (h0 : 0 ≤ b) (h1 : b < 10) : waitF (back s (b + 1)) = min (2 * waitF (back s b)) 32 := by
  have h3 := two_pow_le b
  have h4 := h.round
  have h5 := h.spread
  unfold waitF
  rw [round_back, spread_back, round_back, spread_back]
  show min ((roundF s + spreadF s) * (2 ^ twos (b + 1) : Nat)) 32 = min (2 * min ((roundF s + spreadF s) * (2 ^ twos b : Nat)) 32) 32
  rw [twos_succ b h0 h1, Nat.pow_succ, Int.natCast_mul, ← Int.mul_assoc]
  have e : (0 : Int) ≤ (roundF s + spreadF s) * (2 ^ twos b : Nat) := Int.mul_nonneg (by omega) (by omega)
  generalize (roundF s + spreadF s) * (2 ^ twos b : Nat) = z at *
  omega
theorem wait_same {s : RS} (b : Int) (h1 : 10 ≤ b) : waitF (back s (b + 1)) = waitF (back s b) := by
  unfold waitF
  show min ((roundF s + spreadF s) * (2 ^ twos (b + 1) : Nat)) 32 = min ((roundF s + spreadF s) * (2 ^ twos b : Nat)) 32
  rw [twos_ten b h1, twos_ten (b + 1) (by omega)]

/-- A longer sample. -/
theorem samp_grows {s : RS} (h : Good s) (x y : Int) (hxy : x ≤ y) : (samp s x).sm ≤ (samp s y).sm ∧ roundF (samp s x) ≤ roundF (samp s y) := by
  have e : (samp s x).sm ≤ (samp s y).sm := by
    unfold samp sat
    split <;> dsimp only <;> omega
  refine ⟨e, ?_⟩
  unfold roundF
  rw [samp_so, samp_so, if_pos rfl, if_pos rfl]
  omega

/-- Samples that are all alike. -/
def Alike (s : RS) (x : Int) : Prop := s.so = true → s.sm = 8 * x
theorem Alike.samp {s : RS} {x : Int} (h : Alike s x) (h1 : 1 ≤ x) (h2 : x ≤ 1000) : Alike (samp s x) x := fun _ => by
  have e : sat x = x := by unfold sat; omega
  unfold Rtt.samp
  cases hso : s.so with
  | true => have := h hso; simp only [if_pos, e]; omega
  | false => rw [if_neg (by simp), e]
theorem alike_round {s : RS} {x : Int} (h : Alike s x) (hs : s.so = true) (h1 : 1 ≤ x) : roundF s = x := by
  unfold roundF; rw [if_pos hs, h hs]; omega

/-- Samples between a least and a greatest one. -/
def Mid (s : RS) (lo hi : Int) : Prop := s.so = true → 8 * lo - 8 ≤ s.sm ∧ s.sm ≤ 8 * hi + 7
theorem Mid.samp {s : RS} {lo hi x : Int} (h : Mid s lo hi) (h1 : 1 ≤ x) (h2 : x ≤ 40) : Mid (samp s x) (min lo x) (max hi x) := fun _ => by
  have e : sat x = x := by unfold sat; omega
  unfold Rtt.samp
  cases hso : s.so with
  | true => have := h hso; simp only [if_pos, e]; omega
  | false => rw [if_neg (by simp), e]; dsimp only; omega
theorem mid_round {s : RS} {lo hi : Int} (h : Mid s lo hi) (hs : s.so = true) (h1 : 1 ≤ hi) : max 1 (lo - 1) ≤ roundF s ∧ roundF s ≤ hi := by
  have := h hs
  unfold roundF; rw [if_pos hs]; omega
end Go.Proofs.YtebfjphmlggacaaGreat.Rtt

namespace Go.Proofs.YtebfjphmlggacaaGreat.Rtt
open Go Go.RowKit

theorem slot_cell {w : World} {p o : Nat} {T : TypeId} {cur : Array Value} {v : Value} (h : w.heap[p]? = some (.cells cur T (0, 0))) (ho : cur[o]? = some v) : w.cell? ⟨p, o, none⟩ = some v := by simp [World.cell?, h, ho]
theorem slot_free {w : World} {p o : Nat} {T : TypeId} {cur : Array Value} (h : w.heap[p]? = some (.cells cur T (0, 0))) : w.frozen? ⟨p, o, none⟩ = false := by simp [World.frozen?, h]
theorem slot_lt {w : World} {p : Nat} {x : Obj} (h : w.heap[p]? = some x) : p < w.heap.size := (Array.getElem?_eq_some_iff.1 h).1
theorem slot_put {w : World} {p : Nat} {T : TypeId} {cur : Array Value} (h : w.heap[p]? = some (.cells cur T (0, 0))) (o : Nat) (u : Value) : (w.setCell ⟨p, o, none⟩ u).heap[p]? = some (.cells (cur.setIfInBounds o u) T (0, 0)) := by
  have hlt := slot_lt h
  have h' : w.heap[p] = .cells cur T (0, 0) := by simpa [Array.getElem?_eq_getElem hlt] using h
  show (w.heap.modify p _)[p]? = _
  rw [Array.getElem?_eq_getElem (by simpa using hlt), Array.getElem_modify_self, h']
  rfl
theorem put_same {cur : Array Value} {o : Nat} {v u : Value} (h : cur[o]? = some v) : (cur.setIfInBounds o u)[o]? = some u := by
  have := (Array.getElem?_eq_some_iff.1 h).1
  simp [this]
theorem put_other {cur : Array Value} {o j : Nat} {u : Value} (h : j ≠ o) : (cur.setIfInBounds j u)[o]? = cur[o]? := by
  simp [Array.getElem?_setIfInBounds, h]

/-- The four cells. -/
structure RtAt (cur : Array Value) (o : Nat) (s : RS) : Prop where
  c0 : cur[o]? = some (.int .i64 s.sm)
  c1 : cur[o + 1]? = some (.int .i64 s.va)
  c2 : cur[o + 2]? = some (.int .i64 s.bk)
  c3 : cur[o + 3]? = some (.bool s.so)
/-- A round's estimate, in block p from o on; the block's other cells are of whatever kind. -/
def RtIn (w : World) (p o : Nat) (T : TypeId) (cur : Array Value) (s : RS) : Prop := w.heap[p]? = some (.cells cur T (0, 0)) ∧ RtAt cur o s
/-- The block has changed there alone. -/
def Same4 (cur cur' : Array Value) (o : Nat) : Prop := cur'.size = cur.size ∧ ∀ j, j < o ∨ o + 4 ≤ j → cur'[j]? = cur[j]?
def RtTo (w w' : World) (p o : Nat) (T : TypeId) (cur : Array Value) (s : RS) : Prop := ∃ cur', RtIn w' p o T cur' s ∧ Same4 cur cur' o ∧ w.grownBy w' (some p)

theorem RtIn.cells {w : World} {p o : Nat} {T : TypeId} {cur : Array Value} {s : RS} (h : RtIn w p o T cur s) : w.cell? ⟨p, o, none⟩ = some (.int .i64 s.sm) ∧ w.cell? ⟨p, o + 1, none⟩ = some (.int .i64 s.va) ∧ w.cell? ⟨p, o + 2, none⟩ = some (.int .i64 s.bk) ∧ w.cell? ⟨p, o + 3, none⟩ = some (.bool s.so) ∧ ∀ k, w.frozen? ⟨p, k, none⟩ = false :=
  ⟨slot_cell h.1 h.2.c0, slot_cell h.1 h.2.c1, slot_cell h.1 h.2.c2, slot_cell h.1 h.2.c3, fun _ => slot_free h.1⟩
theorem RtIn.here {w : World} {p o : Nat} {T : TypeId} {cur : Array Value} {s : RS} (h : RtIn w p o T cur s) : RtTo w w p o T cur s := ⟨cur, h, ⟨rfl, fun _ _ => rfl⟩, ⟨rfl, rfl, rfl, Nat.le_refl _, fun _ _ _ => rfl⟩⟩
theorem grown_put {a w : World} {p o : Nat} {u : Value} (h : a.grownBy w (some p)) : a.grownBy (w.setCell ⟨p, o, none⟩ u) (some p) :=
  ⟨h.os, h.tape, h.output, by simpa [World.setCell] using h.size, fun k hk hne => (Below.heap_setCell _ _ _ _ (fun e => hne (by simp [e]))).trans (h.block k hk hne)⟩
theorem Same4.put {cur cur' : Array Value} {o j : Nat} {u : Value} (h : Same4 cur cur' o) (h1 : o ≤ j) (h2 : j < o + 4) : Same4 cur (cur'.setIfInBounds j u) o :=
  ⟨by rw [Array.size_setIfInBounds]; exact h.1, fun k hk => (put_other (by omega)).trans (h.2 k hk)⟩
theorem RtTo.drew {w w' : World} {p o : Nat} {T : TypeId} {cur : Array Value} {s : RS} (h : RtTo w w' p o T cur s) : RtTo w w'.drew p o T cur s := by
  obtain ⟨c, h1, h2, h3⟩ := h
  exact ⟨c, h1, h2, ⟨h3.os, h3.tape, h3.output, h3.size, h3.block⟩⟩
theorem RtTo.sm {w w' : World} {p o : Nat} {T : TypeId} {cur : Array Value} {s : RS} (h : RtTo w w' p o T cur s) (a : Int) : RtTo w (w'.setCell ⟨p, o, none⟩ (.int .i64 a)) p o T cur ⟨a, s.va, s.bk, s.so⟩ := by
  obtain ⟨c, ⟨h0, h1⟩, h2, h3⟩ := h
  exact ⟨_, ⟨slot_put h0 _ _, ⟨put_same h1.c0, (put_other (by omega)).trans h1.c1, (put_other (by omega)).trans h1.c2, (put_other (by omega)).trans h1.c3⟩⟩, h2.put (by omega) (by omega), grown_put h3⟩
theorem RtTo.va {w w' : World} {p o : Nat} {T : TypeId} {cur : Array Value} {s : RS} (h : RtTo w w' p o T cur s) (a : Int) : RtTo w (w'.setCell ⟨p, o + 1, none⟩ (.int .i64 a)) p o T cur ⟨s.sm, a, s.bk, s.so⟩ := by
  obtain ⟨c, ⟨h0, h1⟩, h2, h3⟩ := h
  exact ⟨_, ⟨slot_put h0 _ _, ⟨(put_other (by omega)).trans h1.c0, put_same h1.c1, (put_other (by omega)).trans h1.c2, (put_other (by omega)).trans h1.c3⟩⟩, h2.put (by omega) (by omega), grown_put h3⟩
theorem RtTo.bk {w w' : World} {p o : Nat} {T : TypeId} {cur : Array Value} {s : RS} (h : RtTo w w' p o T cur s) (a : Int) : RtTo w (w'.setCell ⟨p, o + 2, none⟩ (.int .i64 a)) p o T cur ⟨s.sm, s.va, a, s.so⟩ := by
  obtain ⟨c, ⟨h0, h1⟩, h2, h3⟩ := h
  exact ⟨_, ⟨slot_put h0 _ _, ⟨(put_other (by omega)).trans h1.c0, (put_other (by omega)).trans h1.c1, put_same h1.c2, (put_other (by omega)).trans h1.c3⟩⟩, h2.put (by omega) (by omega), grown_put h3⟩
theorem RtTo.so {w w' : World} {p o : Nat} {T : TypeId} {cur : Array Value} {s : RS} (h : RtTo w w' p o T cur s) (a : Bool) : RtTo w (w'.setCell ⟨p, o + 3, none⟩ (.bool a)) p o T cur ⟨s.sm, s.va, s.bk, a⟩ := by
  obtain ⟨c, ⟨h0, h1⟩, h2, h3⟩ := h
  exact ⟨_, ⟨slot_put h0 _ _, ⟨(put_other (by omega)).trans h1.c0, (put_other (by omega)).trans h1.c1, (put_other (by omega)).trans h1.c2, put_same h1.c3⟩⟩, h2.put (by omega) (by omega), grown_put h3⟩
theorem RtTo.state {w w' : World} {p o : Nat} {T : TypeId} {cur : Array Value} {s s' : RS} (h : RtTo w w' p o T cur s) (e : s = s') : RtTo w w' p o T cur s' := e ▸ h
theorem RtTo.trans {w w1 w2 : World} {p o : Nat} {T : TypeId} {cur cur1 : Array Value} {s1 s2 : RS} (h1 : RtIn w1 p o T cur1 s1 ∧ Same4 cur cur1 o ∧ w.grownBy w1 (some p)) (h2 : RtTo w1 w2 p o T cur1 s2) : RtTo w w2 p o T cur s2 := by
  obtain ⟨_, b1, b2⟩ := h1
  obtain ⟨c, a0, a1, a2⟩ := h2
  exact ⟨c, a0, ⟨a1.1.trans b1.1, fun j hj => (a1.2 j hj).trans (b1.2 j hj)⟩, ⟨a2.os.trans b2.os, a2.tape.trans b2.tape, a2.output.trans b2.output, Nat.le_trans b2.size a2.size, fun g hg hne => (a2.block g (Nat.lt_of_lt_of_le hg b2.size) hne).trans (b2.block g hg hne)⟩⟩

theorem sat_any (n a b : Int) (w : World) :
    Calls Tryz.prog 60 #[.int .i64 n, .int .i64 a, .int .i64 b] w fun e w' => e = .returned (.int .i64 (min (max n a) b)) ∧ w = w' := by
  go_enter Tryz.func60, Tryz.ntmps60
  go_wp2
  all_goals go_ret
  all_goals exact ⟨ret_int (by omega), rfl⟩

theorem away_any (a b : Int) (w : World) (h1 : 0 ≤ a) (h2 : a ≤ 8007) (h3 : 0 ≤ b) (h4 : b ≤ 8007) :
    Calls Tryz.prog 86 #[.int .i64 a, .int .i64 b] w fun e w' => e = .returned (.int .i64 (far a b)) ∧ w = w' := by
  go_enter Tryz.func86, Tryz.ntmps86
  go_wp2
  all_goals go_ret
  all_goals exact ⟨ret_int (by unfold far; omega), rfl⟩

theorem round_any (s : RS) (hs : Good s) (p o : Nat) (T : TypeId) (cur : Array Value) (w : World) (h : RtIn w p o T cur s) :
    Calls Tryz.prog 58 #[.pointer (some ⟨p, o, none⟩)] w fun e w' => e = .returned (.int .i64 (roundF s)) ∧ w' = w := by
  obtain ⟨hc0, _, _, hc3, _⟩ := h.cells
  have h0 := hs.lo
  have h1 := hs.hi
  have HR : Hid (roundF s = if s.so = true then max 1 (s.sm / 8) else 4) := rfl
  obtain ⟨r, hr⟩ : ∃ r, Hid (roundF s = r) := ⟨_, rfl⟩
  rw [hr.out] at HR ⊢
  obtain ⟨sm, va, bk, so⟩ := s
  dsimp only at hc0 hc3 h0 h1 HR
  cases so
  all_goals
    go_enter Tryz.func58, Tryz.ntmps58
    go_wp2
    all_goals go_ret
    all_goals exact ⟨ret_int (by have := HR.out; simp at this; omega), rfl⟩

theorem spread_any (s : RS) (hs : Good s) (p o : Nat) (T : TypeId) (cur : Array Value) (w : World) (h : RtIn w p o T cur s) :
    Calls Tryz.prog 59 #[.pointer (some ⟨p, o, none⟩)] w fun e w' => e = .returned (.int .i64 (spreadF s)) ∧ w' = w := by
  obtain ⟨_, hc1, _, hc3, _⟩ := h.cells
  have h0 := hs.v0
  have h1 := hs.v1
  have HR : Hid (spreadF s = if s.so = true then max 1 s.va else 4) := rfl
  obtain ⟨r, hr⟩ : ∃ r, Hid (spreadF s = r) := ⟨_, rfl⟩
  rw [hr.out] at HR ⊢
  obtain ⟨sm, va, bk, so⟩ := s
  dsimp only at hc1 hc3 h0 h1 HR
  cases so
  all_goals
    go_enter Tryz.func59, Tryz.ntmps59
    go_wp2
    all_goals go_ret
    all_goals exact ⟨ret_int (by have := HR.out; simp at this; omega), rfl⟩
end Go.Proofs.YtebfjphmlggacaaGreat.Rtt

namespace Go.Proofs.YtebfjphmlggacaaGreat.Rtt
open Go Go.RowKit

theorem still_tail {P : Program} {id : Nat} {Q : Exit → Act → World → Prop} {a : Act} {w : World} {l : List Oper} (n : Nat) (hm : P.follows .mixedOrders = true) (hB : Region.lexTailB .any l.toArray n = true)
    (h : ∀ w' : World, w' = w.drew → wpStill P l.toArray w' (fun a' => wpList P l.toArray Q (l.drop n) a' w') (l.take n) a) : (Code.region id l.toArray true).wp P Q a w :=
  wp_region_still_tail n hm hB (h _ rfl)

theorem quo8 (a : Int) (h0 : 0 ≤ a) (h1 : a ≤ 8007) : IntKind.i64.wrap (a.tdiv 8) = a / 8 := by
  rw [Int.tdiv_eq_ediv_of_nonneg h0]; exact IntWalk.i64_in _ (by omega)
theorem quo4 (a : Int) (h0 : 0 ≤ a) (h1 : a ≤ 8007) : IntKind.i64.wrap (a.tdiv 4) = a / 4 := by
  rw [Int.tdiv_eq_ediv_of_nonneg h0]; exact IntWalk.i64_in _ (by omega)

theorem late_any (s : RS) (hs : Good s) (p o : Nat) (T : TypeId) (cur : Array Value) (w : World) (h : RtIn w p o T cur s) :
    Calls Tryz.prog 41 #[.pointer (some ⟨p, o, none⟩)] w fun e w' => e = .returned (.int .i64 (lateF s)) ∧ w' = w := by
  have H := Lib.hid (round_any s hs p o T cur w h)
  have hr := hs.round
  have HL : Hid (lateF s = roundF s + roundF s / 8 + 1) := rfl
  obtain ⟨r, hr'⟩ : ∃ r, Hid (roundF s = r) := ⟨_, rfl⟩
  obtain ⟨l, hl⟩ : ∃ r, Hid (lateF s = r) := ⟨_, rfl⟩
  rw [hr'.out] at H HL hr
  rw [hl.out] at HL ⊢
  clear h
  go_enter Tryz.func41, Tryz.ntmps41
  go_wp2_with (go_at_call 58; refine H.out.mono ?_; rintro e w' ⟨rfl, rfl⟩)
  go_ret
  exact ⟨ret_int (by have := HL.out; omega), rfl⟩

set_option maxRecDepth 100000 in
set_option maxHeartbeats 1000000 in
theorem follow_any (s : RS) (hs : Good s) (x : Int) (h1 : 1 ≤ x) (h2 : x ≤ 1000) (p o : Nat) (T : TypeId) (cur : Array Value) (w : World) (h : RtIn w p o T cur s) :
    Calls Tryz.prog 70 #[.pointer (some ⟨p, o, none⟩), .int .i64 x] w fun e w' => e = .returned (.tuple #[]) ∧ RtTo w w' p o T cur ⟨s.sm - s.sm / 8 + x, s.va - s.va / 4 + far x (s.sm / 8), s.bk, s.so⟩ := by
  obtain ⟨hc0, hc1, hc2, hc3, hf⟩ := h.cells
  have H := Lib.hid h
  obtain ⟨sm, va, bk, so⟩ := s
  obtain ⟨g1, g2, g3, g4, _⟩ := hs
  dsimp only at g1 g2 g3 g4 hc0 hc1 ⊢
  have HAW : Hid (∀ W, Calls Tryz.prog 86 #[.int .i64 x, .int .i64 (IntKind.i64.wrap (sm.tdiv 8))] W fun e w' => e = .returned (.int .i64 (far x (sm / 8))) ∧ w' = W) := fun W => by
    rw [quo8 sm g1 g2]
    exact (away_any x (sm / 8) W (by omega) (by omega) (by omega) (by omega)).mono fun e w' h => ⟨h.1, h.2.symm⟩
  have hfar : 0 ≤ far x (sm / 8) ∧ far x (sm / 8) ≤ 1000 := by unfold far; omega
  obtain ⟨d, hd⟩ : ∃ d, Hid (far x (sm / 8) = d) := ⟨_, rfl⟩
  rw [hd.out] at HAW hfar ⊢
  clear h hc2 hc3
  go_enter Tryz.func70, Tryz.ntmps70
  go_wp2_with fail
  refine still_tail 18 (by kernel_rfl) (by kernel_rfl) ?_
  intro wz hwz
  have hz0 : wz.cell? ⟨p, o, none⟩ = some (.int .i64 sm) := by rw [hwz]; exact hc0
  have hz1 : wz.cell? ⟨p, o + 1, none⟩ = some (.int .i64 va) := by rw [hwz]; exact hc1
  have hzf : wz.frozen? ⟨p, o + 1, none⟩ = false := by rw [hwz]; exact hf (o + 1)
  have HZ : Hid (RtTo w wz p o T cur ⟨sm, va, bk, so⟩) := by rw [hwz]; exact H.out.here.drew
  clear hwz hc0 hc1 hf H
  simp only [List.take_succ_cons, List.take_zero, List.drop_succ_cons, List.drop_zero]
  iterate 10 still_step
  still_call (HAW.out _)
  iterate 7 still_step
  refine wpStill_nil ?_
  clear HAW
  go_wp2_with fail
  have HY : Hid (RtTo w (wz.setCell ⟨p, o + 1, none⟩ (.int .i64 (va + (d - va / 4)))) p o T cur ⟨sm, va - va / 4 + d, bk, so⟩) := (HZ.out.va _).state (by simp; omega)
  clear hz0 hz1 hzf HZ
  refine still_tail 12 (by kernel_rfl) (by kernel_rfl) ?_
  intro wy hwy
  have HY2 : Hid (RtTo w wy p o T cur ⟨sm, va - va / 4 + d, bk, so⟩) := by rw [hwy]; exact HY.out.drew
  clear hwy HY
  obtain ⟨c2, hin, _⟩ := HY2.out
  obtain ⟨hy0, _, _, _, hf⟩ := hin.cells
  have hyf := hf o
  clear hf hin
  simp only [List.take_succ_cons, List.take_zero, List.drop_succ_cons, List.drop_zero]
  iterate 12 still_step
  refine wpStill_nil ?_
  go_wp2_with fail
  go_end0
  refine ⟨rfl, (HY2.out.sm _).state (by simp; omega)⟩

set_option maxRecDepth 100000 in
set_option maxHeartbeats 1000000 in
theorem sample_any (s : RS) (hs : Good s) (x : Int) (p o : Nat) (T : TypeId) (cur : Array Value) (w : World) (h : RtIn w p o T cur s) :
    Calls Tryz.prog 32 #[.pointer (some ⟨p, o, none⟩), .int .i64 x] w fun e w' => e = .returned (.tuple #[]) ∧ RtTo w w' p o T cur (samp s x) := by
  obtain ⟨hc0, hc1, hc2, hc3, hf⟩ := h.cells
  have hx := sat_in x
  have HSA : Hid (∀ W, Calls Tryz.prog 60 #[.int .i64 x, .int .i64 1, .int .i64 1000] W fun e w' => e = .returned (.int .i64 (sat x)) ∧ W = w') := fun W => sat_any x 1 1000 W
  have H := Lib.hid h
  have HF := Lib.hid (fun x h1 h2 => follow_any s hs x h1 h2 p o T cur w h)
  have HS : Hid (samp s x = if s.so = true then ⟨s.sm - s.sm / 8 + sat x, s.va - s.va / 4 + far (sat x) (s.sm / 8), 0, true⟩ else ⟨8 * sat x, 2 * sat x, 0, true⟩) := rfl
  obtain ⟨z, hz⟩ : ∃ z, Hid (sat x = z) := ⟨_, rfl⟩
  rw [hz.out] at HSA hx HS
  obtain ⟨hx1, hx2⟩ := hx
  have HF2 := Lib.hid (HF.out z hx1 hx2)
  obtain ⟨s', hs'⟩ : ∃ z, Hid (samp s x = z) := ⟨_, rfl⟩
  rw [hs'.out] at HS ⊢
  have hf0 := hf o
  have hf1 := hf (o + 1)
  have hf2 := hf (o + 2)
  have hf3 := hf (o + 3)
  clear h hf HF
  obtain ⟨so, hso⟩ : ∃ z, Hid (s.so = z) := ⟨_, rfl⟩
  rw [hso.out] at hc3 HS
  cases so
  · clear HF2
    go_enter Tryz.func32, Tryz.ntmps32
    go_wp2_with (go_at_call 60; refine (HSA.out _).mono ?_; rintro e w' ⟨rfl, rfl⟩)
    go_end0
    exact ⟨rfl, ((((H.out.here.sm _).va _).so true).bk 0).state (by rw [HS.out]; rfl)⟩
  · clear hc0 hc1 hc2 hf0 hf1 hf2 hf3
    go_enter Tryz.func32, Tryz.ntmps32
    go_wp2_with fail
    refine (HSA.out _).mono ?_
    rintro e w' ⟨rfl, rfl⟩
    go_wp2_with fail
    refine HF2.out.mono ?_
    rintro e w1 ⟨rfl, h1⟩
    have HT := Lib.hid h1
    obtain ⟨c2, hin, _⟩ := h1
    obtain ⟨_, _, _, _, hf⟩ := hin.cells
    have hf2 := hf (o + 2)
    have hf3 := hf (o + 3)
    obtain ⟨_, _, k2, k3, _⟩ := hin.cells
    clear hf hin HF2 hc3
    go_wp2_with fail
    go_end0
    exact ⟨rfl, ((HT.out.so true).bk 0).state (by rw [HS.out]; rfl)⟩

theorem shl_two (k : Nat) (hk : k ≤ 10) (a : Int) (h0 : 0 ≤ a) (h1 : a ≤ 64) : wrap64 (a * 2 ^ k) = a * ((2 ^ k : Nat) : Int) := by
  have h2 : 1 ≤ 2 ^ k ∧ 2 ^ k ≤ 1024 := ⟨Nat.one_le_two_pow, Nat.pow_le_pow_right (by decide) hk⟩
  have e : ((2 : Int) ^ k) = ((2 ^ k : Nat) : Int) := by simp
  rw [e]
  generalize 2 ^ k = m at *
  have : a * (m : Int) ≤ 64 * 1024 := Int.mul_le_mul (by omega) (by omega) (by omega) (by omega)
  have : 0 ≤ a * (m : Int) := Int.mul_nonneg h0 (by omega)
  exact IntWalk.wrap64_in _ (by omega)

set_option maxRecDepth 100000 in
set_option maxHeartbeats 1000000 in
theorem wait_any (s : RS) (hs : Good s) (p o : Nat) (T : TypeId) (cur : Array Value) (w : World) (h : RtIn w p o T cur s) :
    Calls Tryz.prog 25 #[.pointer (some ⟨p, o, none⟩)] w fun e w' => e = .returned (.int .i64 (waitF s)) ∧ w' = w := by
  obtain ⟨_, _, hc2, _, _⟩ := h.cells
  have HR := Lib.hid (round_any s hs p o T cur w h)
  have HP := Lib.hid (spread_any s hs p o T cur w h)
  have h1 := hs.round
  have h2 := hs.spread
  have HW := Lib.hid (wait_cut hs)
  obtain ⟨r, hr⟩ : ∃ z, Hid (roundF s = z) := ⟨_, rfl⟩
  obtain ⟨d, hd⟩ : ∃ z, Hid (spreadF s = z) := ⟨_, rfl⟩
  obtain ⟨l, hl⟩ : ∃ z, Hid (waitF s = z) := ⟨_, rfl⟩
  rw [hr.out] at HR HW h1
  rw [hd.out] at HP HW h2
  rw [hl.out] at HW ⊢
  obtain ⟨b, hb⟩ : ∃ z, Hid (s.bk = z) := ⟨_, rfl⟩
  rw [hb.out] at hc2 HW
  have HB : Hid (∀ W, Calls Tryz.prog 60 #[.int .i64 b, .int .i64 0, .int .i64 10] W fun e w' => e = .returned (.int .i64 ((twos b : Nat) : Int)) ∧ W = w') := fun W => by
    have := sat_any b 0 10 W
    have e : ((twos b : Nat) : Int) = min (max b 0) 10 := by unfold twos; omega
    rwa [e]
  have hk := twos_le b
  obtain ⟨k, hk'⟩ : ∃ z, Hid (twos b = z) := ⟨_, rfl⟩
  rw [hk'.out] at HB HW hk
  clear h
  have HV := Lib.hid (shl_two k hk)
  have c1 : r ≤ 32 ∨ 32 < r := by omega
  have c2 : d ≤ 32 ∨ 32 < d := by omega
  rcases c1 with c1 | c1 <;> rcases c2 with c2 | c2
  all_goals
    go_enter Tryz.func25, Tryz.ntmps25
    go_wp2_with (first | (go_at_call 58; refine HR.out.mono ?_; rintro e w' ⟨rfl, rfl⟩) | (go_at_call 59; refine HP.out.mono ?_; rintro e w' ⟨rfl, rfl⟩) | (go_at_call 60; refine (HB.out _).mono ?_; rintro e w' ⟨rfl, rfl⟩))
    all_goals go_ret
    all_goals
      refine ⟨ret_int ?_, rfl⟩
      have e := HV.out (min r 32 + min d 32) (by omega) (by omega)
      rw [HW.out.symm]
      first
      | (rw [Int.min_eq_left c1, Int.min_eq_left c2] at e ⊢; omega)
      | (rw [Int.min_eq_left c1, Int.min_eq_right (show (32 : Int) ≤ d by omega)] at e ⊢; omega)
      | (rw [Int.min_eq_right (show (32 : Int) ≤ r by omega), Int.min_eq_left c2] at e ⊢; omega)
      | (rw [Int.min_eq_right (show (32 : Int) ≤ r by omega), Int.min_eq_right (show (32 : Int) ≤ d by omega), show (32 : Int) + 32 = 64 from rfl] at e ⊢; omega)
end Go.Proofs.YtebfjphmlggacaaGreat.Rtt
