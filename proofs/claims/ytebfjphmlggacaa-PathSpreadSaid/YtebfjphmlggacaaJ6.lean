/- Joined texts. Small functions of package frame: bit, namesOf, rightNumbers, rightData, what elicits: contracts. Conditions: as each theorem lists them. rightNumbers, rightData of package frame: contracts. Conditions: as each theorem lists them. rightSpans of package frame: a contract. Conditions: as the theorem lists them. carried of package frame: a contract. Conditions: as the theorem lists them. Right of package frame: a contract. Conditions: as the theorem lists them. -/
import Derived.Test.YtebfjphmlggacaaJ5
import Derived.Deep.QuietTactic
import Derived.BigQuiet
import Derived.Deep.RegionHeld3
set_option linter.unusedSimpArgs false
set_option linter.unusedVariables false

namespace Go.Proofs.Ytebfjphmlggacaa
open Go Go.RowKit

def bitI (b : Bool) : Int := if b then 1 else 0
/-- What a kind names, as bits; whether it is one. -/
def nm (k : Int) : Nat := if k = 2 then 64 else if k = 3 then 53 else if k = 4 then 15 else if k = 5 then 3 else if k = 7 then 3 else if k = 6 then 2 else if k = 12 then 2 else if k = 8 then 18 else if k = 9 then 32 else if k = 10 then 1 else if k = 11 then 1 else 0
def kn (k : Int) : Bool := decide (1 ≤ k) && decide (k ≤ 12)

/-- Whether a kind elicits. -/
def elB (k : Int) : Bool := !decide (k = 2) && !decide (k = 12)
end Go.Proofs.Ytebfjphmlggacaa

namespace Go.Proofs.Ytebfjphmlggacaa
open Go Go.RowKit

theorem ret_bool {a b : Bool} (h : a = b) : Ending.returned (.bool a) = .returned (.bool b) := by rw [h]

def rnB (id a off b : Int) : Bool := decide (allMay [id, a, off, b]) && decide (b ≤ off)

def rdB (k off : Int) (n : Nat) : Bool := decide (n ≤ 120) && decide ((n : Int) ≤ wrap64 (4611686018427387903 - off)) && (decide (0 < n) || !decide (k = 9))

end Go.Proofs.Ytebfjphmlggacaa

namespace Go.Proofs.Ytebfjphmlggacaa
open Go Go.RowKit

/-- Whether run k of a flat list of runs is right. -/
def spK (es : List Int) (k : Nat) : Bool := decide (0 ≤ es.getD (2 * k) 0) && decide (es.getD (2 * k + 1) 0 ≤ 4611686018427387903) && decide (es.getD (2 * k) 0 ≤ es.getD (2 * k + 1) 0) && (decide (k = 0) || decide (2 ≤ wrap64 (es.getD (2 * (k - 1)) 0 - es.getD (2 * k + 1) 0)))
def rsB (es : List Int) (m : Nat) : Bool := decide (∀ k, k < m → spK es k = true) && (decide (1 ≤ m) && decide (m ≤ 8))

theorem rsB_no {es : List Int} {m k : Nat} (hk : k < m) (h : spK es k = false) : rsB es m = false := by
  unfold rsB
  rw [decide_eq_false (fun H => by rw [H k hk] at h; cases h)]
  rfl
theorem rsB_all {es : List Int} {m : Nat} (h : ∀ k, k < m → spK es k = true) : rsB es m = (decide (1 ≤ m) && decide (m ≤ 8)) := by
  unfold rsB
  rw [decide_eq_true h]
  rfl
theorem all_snoc {es : List Int} {k : Nat} (h : ∀ j, j < k → spK es j = true) (hk : spK es k = true) : ∀ j, j < k + 1 → spK es j = true := fun j hj => by
  rcases Nat.lt_or_ge j k with h1 | h1
  · exact h j h1
  · obtain rfl : j = k := by omega
    exact hk

end Go.Proofs.Ytebfjphmlggacaa

namespace Go.Proofs.Ytebfjphmlggacaa
open Go Go.RowKit

/-- The bits of those that are so. -/
def carI (b : Nat → Bool) : Nat → Int
  | 0 => 0
  | k + 1 => if b k = true then bits .or .i64 (carI b k) (2 ^ k) else carI b k
theorem carI_yes {b : Nat → Bool} {k : Nat} (h : b k = true) : carI b (k + 1) = bits .or .i64 (carI b k) (2 ^ k) := by simp only [carI, h, if_true]
theorem carI_no {b : Nat → Bool} {k : Nat} (h : b k = false) : carI b (k + 1) = carI b k := by simp [carI, h]
def seven {α : Type} (x0 x1 x2 x3 x4 x5 x6 : α) : Nat → α
  | 0 => x0
  | 1 => x1
  | 2 => x2
  | 3 => x3
  | 4 => x4
  | 5 => x5
  | _ => x6
/-- What of a frame is not zero. -/
def carB (id off a b : Int) (fin : Bool) (n m : Nat) : Nat → Bool := seven (id != 0) (a != 0) (off != 0) (b != 0) fin (decide (0 < n)) (decide (0 < m))

end Go.Proofs.Ytebfjphmlggacaa

namespace Go.Proofs.Ytebfjphmlggacaa
open Go Go.RowKit

/-- A frame, plainly: its spans one behind the other, first and last. -/
structure Fr where
  k : Int
  id : Int
  off : Int
  a : Int
  b : Int
  note : Int
  fin : Bool
  data : List Nat
  spans : List Int

def rightB (f : Fr) : Bool :=
  kn f.k && rnB f.id f.a f.off f.b && (bits .andNot .i64 (carI (carB f.id f.off f.a f.b f.fin f.data.length (f.spans.length / 2)) 7) (nm f.k : Int) == 0) && rdB f.k f.off f.data.length && ((bits .and .i64 (nm f.k : Int) 64 == 0) || rsB f.spans (f.spans.length / 2))

/-- A value that reads as a frame. -/
def IsFr (w : World) (B : Nat) (f : Fr) (A : Option Addr) (n c : Nat) (A2 : Option Addr) (n2 c2 : Nat) : Prop :=
  f.data.length = n ∧ n ≤ c ∧ Rd w B A n (bv f.data) ∧ f.spans.length = n2 * 2 ∧ n2 ≤ c2 ∧ Rd w B A2 (n2 * 2) (ints f.spans)

theorem IsFr.below {w w' : World} {B B' : Nat} {f : Fr} {A : Option Addr} {n c : Nat} {A2 : Option Addr} {n2 c2 : Nat} (h : IsFr w B f A n c A2 n2 c2) (hb : Below B' w w') (hB : B ≤ B') : IsFr w' B f A n c A2 n2 c2 :=
  ⟨h.1, h.2.1, h.2.2.1.below hb hB, h.2.2.2.1, h.2.2.2.2.1, h.2.2.2.2.2.below hb hB⟩

def frA (f : Fr) (A : Option Addr) (n c : Nat) (A2 : Option Addr) (n2 c2 : Nat) : Value := .agg #[.int .i64 f.k, .int .i64 f.id, .int .i64 f.off, .int .i64 f.a, .int .i64 f.b, .int .i64 f.note, .bool f.fin, .slice A n c, .slice A2 n2 c2]

end Go.Proofs.Ytebfjphmlggacaa
