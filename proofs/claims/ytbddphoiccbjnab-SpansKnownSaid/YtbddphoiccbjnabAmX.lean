/- A long evaluation in pieces: what stands between them is written out, so that the kernel sees one piece at a time. Conditions: as each theorem lists them. -/
import Derived.Test.YtbddphoiccbjnabAm11
namespace Go.Am
open Go Go.RowKit

variable {P : Program} {G : Nat} {S S' : St} {a a' : Act} {k : Code} {n m : Nat}

/-- What stands behind a body's first parts. -/
def behind : Nat → Code → Code
  | 0, k => k
  | j + 1, .seq _ y => behind j y
  | _ + 1, k => k

/-- The first parts of a body. -/
def evFirst (P : Program) (G : Nat) : Nat → Nat → Code → Act → St → Option (Act × St)
  | 0, _, _, a, S => some (a, S)
  | j + 1, n + 1, .seq x y, a, S => match evC P G n x a S with
    | some (.normal, a', S') => evFirst P G j n y a' S'
    | _ => none
  | _ + 1, _, _, _, _ => none

theorem evC_first : ∀ (j : Nat) {n : Nat} {k : Code} {a : Act} {S : St}, evFirst P G j (n + j) k a S = some (a', S') → evC P G (n + j) k a S = evC P G n (behind j k) a' S'
  | 0, n, k, a, S, h => by
    simp only [evFirst, Option.some.injEq, Prod.mk.injEq] at h
    obtain ⟨rfl, rfl⟩ := h
    rfl
  | j + 1, n, k, a, S, h => by
    cases k with
    | seq x y =>
      have h' : (match evC P G (n + j) x a S with
        | some (.normal, a', S') => evFirst P G j (n + j) y a' S'
        | _ => none) = some (a', S') := h
      show (match evC P G (n + j) x a S with
        | some (.normal, a', S') => evC P G (n + j) y a' S'
        | r => r) = evC P G n (behind j y) a' S'
      split at h'
      · exact evC_first j h'
      · cases h'
    | _ => cases h

theorem evC_pieces (j : Nat) (hm : m = n + j) (h : evFirst P G j m k a S = some (a', S')) : evC P G m k a S = evC P G n (behind j k) a' S' := by
  subst hm; exact evC_first j h

/-- The region that a body begins with, if it has its order or draws it. -/
def headOps : Code → Array Oper
  | .seq (.region _ ops _) _ => ops
  | _ => #[]
def headIs (d : Bool) : Code → Bool
  | .seq (.region _ _ d') _ => d == d'
  | _ => false

theorem evOps_app {call : CallF} {ops : Array Oper} : ∀ (l1 : List Oper) {l2 : List Oper} {a a1 : Act} {S S1 : St}, evOps P G call ops l1 a S = some (a1, S1) → evOps P G call ops (l1 ++ l2) a S = evOps P G call ops l2 a1 S1
  | [], l2, a, a1, S, S1, h => by
    simp only [evOps, Option.some.injEq, Prod.mk.injEq] at h
    obtain ⟨rfl, rfl⟩ := h
    rfl
  | o :: rest, l2, a, a1, S, S1, h => by
    rw [List.cons_append]
    rw [evOps] at h
    rw [evOps]
    split
    · rename_i hw
      rw [if_pos hw] at h
      split
      · rename_i ho
        rw [if_pos ho] at h
        split
        · rename_i f args hc
          rw [hc] at h
          simp only at h
          split
          · rename_i hf
            rw [if_pos hf] at h
            split
            · rename_i v S2 he
              rw [he] at h
              exact evOps_app rest h
            · rename_i he
              rw [he] at h
              cases h
          · rename_i hf
            rw [if_neg hf] at h
            cases h
        · rename_i hc
          rw [hc] at h
          simp only at h
          split
          · rename_i v S2 he
            rw [he] at h
            exact evOps_app rest h
          · rename_i he
            rw [he] at h
            cases h
      · rename_i ho
        rw [if_neg ho] at h
        cases h
    · rename_i hw
      rw [if_neg hw] at h
      exact evOps_app rest h

/-- A part of the operations of the region that a body begins with. -/
def evPart (P : Program) (G : Nat) (n : Nat) (k : Code) (i j : Nat) (a : Act) (S : St) : Option (Act × St) :=
  evOps P G (runFn P (evC P G n)) (headOps k) (((headOps k).toList.drop i).take j) a S

theorem evPart_more {i j l : Nat} {a1 : Act} {S1 : St} (h : evPart P G n k i j a S = some (a1, S1)) (h2 : evPart P G n k (i + j) l a1 S1 = some (a', S')) : evPart P G n k i (j + l) a S = some (a', S') := by
  unfold evPart at h h2 ⊢
  rw [show ((headOps k).toList.drop i).take (j + l) = ((headOps k).toList.drop i).take j ++ ((headOps k).toList.drop (i + j)).take l by rw [List.take_add, List.drop_drop]]
  rw [evOps_app _ h]
  exact h2

theorem evC_region {j : Nat} (hd : headIs false k = true) (hj : (headOps k).size = j) (hm : m = n + 2) (h : evPart P G n k 0 j a S = some (a', S')) : evC P G m k a S = evC P G (n + 1) (behind 1 k) a' S' := by
  subst hm
  unfold headIs at hd
  split at hd
  · rename_i id ops d y
    obtain rfl : d = false := by cases d <;> simp_all
    have e : evC P G (n + 1) (.region id ops false) a S = some (.normal, a', S') := by
      simp only [evPart, headOps, List.drop_zero] at h hj
      rw [List.take_of_length_le (by simp [← hj])] at h
      rw [evC]
      simp only [Bool.false_eq_true, if_false, h]
    show (match evC P G (n + 1) (.region id ops false) a S with
        | some (.normal, a', S') => evC P G (n + 1) y a' S'
        | r => r) = _
    rw [e]
    rfl
  · cases hd

/-- Some steps of all ways. -/
def evSteps (P : Program) (G : Nat) (n : Nat) (k : Code) (nb nf : Nat) : Nat → List Ent → Option (List Ent)
  | 0, es => some es
  | j + 1, es => match evSuccs P G (runFn P (evC P G n)) (headOps k) nb nf es with
    | some es' => evSteps P G n k nb nf j es'
    | none => none

theorem evSteps_more {nb nf : Nat} : ∀ (j : Nat) {l : Nat} {es es' : List Ent} {r : Act × St}, evSteps P G n k nb nf j es = some es' → evWays P G (runFn P (evC P G n)) (headOps k) nb nf l es' = some r → evWays P G (runFn P (evC P G n)) (headOps k) nb nf (l + j) es = some r
  | 0, l, es, es', r, h, h2 => by
    cases h
    exact h2
  | j + 1, l, es, es', r, h, h2 => by
    unfold evSteps at h
    split at h
    · rename_i es1 he
      show (match evSuccs P G (runFn P (evC P G n)) (headOps k) nb nf es with
        | some es' => evWays P G (runFn P (evC P G n)) (headOps k) nb nf (l + j) es'
        | none => none) = _
      rw [he]
      exact evSteps_more j h h2
    · cases h

theorem evC_draw {j : Nat} (hd : headIs true k = true) (hf : P.follows .mixedOrders = true) (hs : Region.noSelect (headOps k) = true) (hj : (headOps k).size = j) (hm : m = n + 2)
    (h : evWays P G (runFn P (evC P G n)) (headOps k) S.nb S.nf j [⟨Array.replicate j false, a, S, []⟩] = some (a', S')) : evC P G m k a S = evC P G (n + 1) (behind 1 k) a' S' := by
  subst hm
  unfold headIs at hd
  split at hd
  · rename_i id ops d y
    obtain rfl : d = true := by cases d <;> simp_all
    have e : evC P G (n + 1) (.region id ops true) a S = some (.normal, a', S') := by
      simp only [headOps] at h hj hs
      subst hj
      rw [evC]
      simp only [if_true, hf, hs, and_self, evDraw, h]
    show (match evC P G (n + 1) (.region id ops true) a S with
        | some (.normal, a', S') => evC P G (n + 1) y a' S'
        | r => r) = _
    rw [e]
    rfl
  · cases hd

theorem evCall_of {f : FuncId} {fn : Func} {a0 : Act} {v : Value} (hf : P.funcs[f]? = some fn) (hb : fn.body = some k) (ha : ({ tmps := #[] ++ Array.replicate (fn.ntmps - (#[] : Array Value).size) undef, defers := [] } : Act) = a0)
    (h : evC P G n k a0 S = some (.ret, a', S')) (hr : resultsA P S' fn a'.tmps = some v) : evCall P G n f #[] S = some (v, S') := by
  unfold evCall runFn
  rw [hf]
  simp only [hb, ha, h, hr, Option.map_some]
end Go.Am
