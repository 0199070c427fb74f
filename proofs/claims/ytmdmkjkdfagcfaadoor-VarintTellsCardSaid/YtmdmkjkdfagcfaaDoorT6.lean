/- Put, Take, Takes, the program's and the reference's, alike. Conditions: as each theorem lists them. -/
import Derived.Test.YtmdmkjkdfagcfaaDoorT5
namespace Go.Proofs.YtmdmkjkdfagcfaaDoor
open Go Go.RowKit

/-- What both Puts lay. -/
def putF (fb : List Nat) (l : List Int) : List Nat := if allMay l then fb ++ encsB l else []
theorem putF_len (fb : List Nat) (l : List Int) : (putF fb l).length ≤ fb.length + 8 * l.length := by
  unfold putF
  split
  · rw [List.length_append, encsB_len]; have := sumW_le l; omega
  · simp
theorem putF_lt (fb : List Nat) (l : List Int) (h : ∀ c ∈ fb, c < 256) : ∀ c ∈ putF fb l, c < 256 := fun c hc => by
  unfold putF at hc
  split at hc
  · rw [List.mem_append] at hc
    rcases hc with hc | hc
    · exact h c hc
    · exact encsB_lt l c hc
  · cases hc

theorem vput_f (fb : List Nat) (B : Nat) (A : Option Addr) (c : Nat) (l : List Int) (B2 : Nat) (A2 : Option Addr) (c2 : Nat) (w : World) (ht : Tabs w) (hx : Rd w B A fb.length (bv fb)) (hB : B ≤ w.heap.size)
    (hx2 : Rd w B2 A2 l.length (ints l)) (hB2 : B2 ≤ w.heap.size) (hA2 : okA A2 l.length c2) (hl : l.length ≤ 1000) (hf : fb.length ≤ 1000) :
    Calls Tryd.prog 9 #[.slice A fb.length c, .slice A2 l.length c2] w fun e w' => ∃ v', e = .returned v' ∧ w'.ownsRow w.heap.size 5 1 v' (putF fb l).length (bv (putF fb l)) ∧ Below w.heap.size w w' := by
  have hs := sumW_le l
  by_cases hm : allMay l
  · have h := put_ok A fb.length c (bv fb) B l B2 A2 c2 w ht hx hB (ones_bv _) hx2 hB2 hA2 (by omega) hm (by omega)
    have e1 : putF fb l = fb ++ encsB l := by unfold putF; rw [if_pos hm]
    rw [e1, List.length_append, encsB_len]
    rw [encs_bv, show bv fb ++ bv (encsB l) = bv (fb ++ encsB l) by simp [bv]] at h
    exact h
  · have h := put_no A fb.length c l B2 A2 c2 w hx2 hA2 (by omega) hm
    have e1 : putF fb l = [] := by unfold putF; rw [if_neg hm]
    rw [e1]
    refine h.mono ?_
    rintro e w' ⟨rfl, rfl⟩
    exact ⟨_, rfl, ⟨rfl, .inl ⟨rfl, rfl⟩⟩, Below.refl _ _⟩

theorem rput_f (fb : List Nat) (B : Nat) (A : Option Addr) (c : Nat) (l : List Int) (B2 : Nat) (A2 : Option Addr) (c2 : Nat) (w : World) (hx : Rd w B A fb.length (bv fb)) (hB : B ≤ w.heap.size)
    (hx2 : Rd w B2 A2 l.length (ints l)) (hB2 : B2 ≤ w.heap.size) (hl : l.length ≤ 1000) (hf : fb.length ≤ 1000) :
    Calls Tryd.prog 16 #[.slice A fb.length c, .slice A2 l.length c2] w fun e w' => ∃ v', e = .returned v' ∧ w'.ownsRow w.heap.size 5 1 v' (putF fb l).length (bv (putF fb l)) ∧ Below w.heap.size w w' := by
  have hs := sumW_le l
  by_cases hm : allMay l
  · have h := rPut_ok A fb.length c (bv fb) B l B2 A2 c2 w hx hB (ones_bv _) hx2 hB2 (by omega) hm (by omega)
    have e1 : putF fb l = fb ++ encsB l := by unfold putF; rw [if_pos hm]
    rw [e1, List.length_append, encsB_len]
    rw [encs_bv, show bv fb ++ bv (encsB l) = bv (fb ++ encsB l) by simp [bv]] at h
    exact h
  · have h := rPut_no A fb.length c l B2 A2 c2 w hx2 (by omega) hm
    have e1 : putF fb l = [] := by unfold putF; rw [if_neg hm]
    rw [e1]
    refine h.mono ?_
    rintro e w' ⟨rfl, rfl⟩
    exact ⟨_, rfl, ⟨rfl, .inl ⟨rfl, rfl⟩⟩, Below.refl _ _⟩

def takeV (bs : List Nat) : Int := match dec bs with | none => 0 | some (v, _) => ((v : Nat) : Int)
def takeR (bs : List Nat) : List Nat := match dec bs with | none => [] | some (_, W) => bs.drop W
def takeE (bs : List Nat) : Int := match dec bs with | none => 3 | some _ => 0
def TakeQ (bs : List Nat) (w : World) (e : Ending) (w' : World) : Prop :=
  ∃ A c, e = .returned (.tuple #[.int .i64 (takeV bs), .slice A (takeR bs).length c, .int .i64 (takeE bs)]) ∧ Hid (Rd w' w'.heap.size A (takeR bs).length (bv (takeR bs)) ∧ Below w.heap.size w w')
theorem takeQ {bs : List Nat} {w : World} {e : Ending} {w' : World} (h : TakeP bs w e w') : TakeQ bs w e w' := by
  unfold TakeQ takeV takeR takeE
  rcases h with ⟨hd, rfl, hb⟩ | ⟨v, W, v', hd, rfl, ho, hb⟩
  · simp only [hd]
    exact ⟨none, 0, rfl, ⟨rfl, fun h => absurd h (by decide)⟩, hb⟩
  · simp only [hd]
    obtain ⟨A, c, rfl, _, _, _, hr⟩ := own_form ho
    rw [List.length_drop]
    exact ⟨A, c, rfl, hr, hb⟩

def takesL (bs : List Nat) (n : Int) : List Nat := match decs n.toNat bs with | none => [] | some (l, _) => l
def takesR (bs : List Nat) (n : Int) : List Nat := match decs n.toNat bs with | none => [] | some (_, r) => r
def takesE (bs : List Nat) (n : Int) : Int := match decs n.toNat bs with | none => 3 | some _ => 0
def natsV (l : List Nat) : List Value := l.map fun x : Nat => Value.int .i64 (x : Int)
def TakesQ (bs : List Nat) (n : Int) (w : World) (e : Ending) (w' : World) : Prop :=
  ∃ A c A' c', e = .returned (.tuple #[.slice A (takesL bs n).length c, .slice A' (takesR bs n).length c', .int .i64 (takesE bs n)]) ∧ Hid (Rd w' w'.heap.size A (takesL bs n).length (natsV (takesL bs n)) ∧ Rd w' w'.heap.size A' (takesR bs n).length (bv (takesR bs n)) ∧ Below w.heap.size w w')
theorem takesQ {bs : List Nat} {n : Int} {w : World} {e : Ending} {w' : World} (h : TakesP bs n w e w') : TakesQ bs n w e w' := by
  unfold TakesQ takesL takesR takesE
  rcases h with ⟨hd, rfl, hb⟩ | ⟨l, r, v, v', hd, rfl, h1, h2, hb⟩
  · simp only [hd]
    exact ⟨none, 0, none, 0, rfl, ⟨rfl, fun h => absurd h (by decide)⟩, ⟨rfl, fun h => absurd h (by decide)⟩, hb⟩
  · simp only [hd]
    obtain ⟨A, c, rfl, _, _, _, hr⟩ := own_form h1
    obtain ⟨A', c', rfl, _, _, _, hr'⟩ := own_form h2
    exact ⟨A, c, A', c', rfl, hr, hr', hb⟩

theorem index3 (s0 s1 s2 : Value) (w : World) :
    (Instr.index 37 (.agg #[s0, s1, s2]) (.int .i64 0)).run Tryd.prog w = .ok s0 w ∧ (Instr.index 37 (.agg #[s0, s1, s2]) (.int .i64 1)).run Tryd.prog w = .ok s1 w ∧ (Instr.index 37 (.agg #[s0, s1, s2]) (.int .i64 2)).run Tryd.prog w = .ok s2 w := by
  refine ⟨?_, ?_, ?_⟩ <;> kernel_rfl
end Go.Proofs.YtmdmkjkdfagcfaaDoor
