/- AcksTells: what the walk needs of memory: both sets, side by side. Conditions: as each theorem lists them. -/
import Derived.Test.YtoglpjgmnojdjaaRb
import Derived.Test.YtoglpjgmnojdjaaOp1
set_option linter.unusedSimpArgs false
set_option linter.unusedVariables false
namespace Go.Proofs.Ytoglpjgmnojdjaa.Sp
open Go Go.RowKit

/-- Two numbers and more that are read do not lie in a block of a slice, a bool and a number. -/
theorem rd_three {w : World} {B n q : Nat} {A : Option Addr} {l : List Int} {T : TypeId} {v : Value} {o : Bool} {k : Int} (h : Rd w B A n (ints l)) (he : n % 2 = 0) (hq : w.heap[q]? = some (.cells #[v, .bool o, .int .i64 k] T (0, 0))) {w' : World} (hg : w.grownBy w' (some q)) : Rd w' B A n (ints l) := by
  refine ⟨h.1, fun hn => ?_⟩
  obtain ⟨b, off, rfl, hlt, hc⟩ := h.2 hn
  have hl : l.length = n := by have := h.1; rwa [ints_len] at this
  refine ⟨b, off, rfl, hlt, fun j u hu => hg.cell (hc j u hu) ?_⟩
  have hne : b ≠ q := fun e => by
    subst e
    have h0 := hc 0 _ (ints_get l 0 (by omega))
    have h1 := hc 1 _ (ints_get l 1 (by omega))
    have e0 : ∀ i, w.cell? ⟨b, i, none⟩ = (#[v, .bool o, .int .i64 k] : Array Value)[i]? := fun i => by simp only [World.cell?, hq]; simp
    rw [e0] at h0 h1
    match off, h0, h1 with
    | 0, _, h1 => simp at h1
    | 1, h0, _ => simp at h0
    | 2, _, h1 => simp at h1
    | off + 3, h0, _ => simp at h0
  simp; omega

theorem SeenIn.blk {w : World} {p : Nat} {s : St} (h : SeenIn w p s) : ∃ v, w.heap[p]? = some (.cells #[v, .bool s.ow, .int .i64 (s.nw + 1)] 56 (0, 0)) := by
  obtain ⟨v, h⟩ := h
  exact ⟨v, h.2.1⟩
theorem Ref.RSeen.blk {w : World} {p : Nat} {s : St} (h : Ref.RSeen w p s) : ∃ v, w.heap[p]? = some (.cells #[v, .bool s.ow, .int .i64 s.nw] 63 (0, 0)) := by
  obtain ⟨v, h⟩ := h
  exact ⟨v, h.blk⟩
theorem SeenIn.apart {w w' : World} {p q : Nat} {s : St} (h : SeenIn w p s) (hpq : p ≠ q) {v : Value} {o : Bool} {k : Int} {T : TypeId} (hq : w.heap[q]? = some (.cells #[v, .bool o, .int .i64 k] T (0, 0))) (hg : w.grownBy w' (some q)) : SeenIn w' p s := by
  have hlt := h.lt
  obtain ⟨v, h1, h2, A, c, h3, h4, h5, h6, h7⟩ := h
  exact ⟨v, h1, (hg.block p hlt (by simp; omega)).trans h2, A, c, h3, h4, h5, (rd_three h6 h1.2.1 hq hg).more hg.size, h7⟩
theorem Ref.RSeen.apart {w w' : World} {p q : Nat} {s : St} (h : Ref.RSeen w p s) (hpq : p ≠ q) {v : Value} {o : Bool} {k : Int} {T : TypeId} (hq : w.heap[q]? = some (.cells #[v, .bool o, .int .i64 k] T (0, 0))) (hg : w.grownBy w' (some q)) : Ref.RSeen w' p s := by
  have hl := h.lt
  obtain ⟨v, h1, A, n, c, h0, ⟨h2, h3⟩, h4, h5, h6⟩ := h
  exact ⟨v, h1, A, n, c, h0, ⟨(hg.block p hl (by simp; omega)).trans h2, h3⟩, h4, (rd_three h5 (by omega) hq hg).more hg.size, h6⟩

/-- Both sets, the program's in block p, the reference's in block r. -/
structure Both (w wr : World) (p r : Nat) (s : St) : Prop where
  win : Win s
  mine : SeenIn wr p s
  ref : Ref.RSeen wr r s
  below : Below w.heap.size w wr
  ne : p ≠ r
  hp : w.heap.size ≤ p
  hr : w.heap.size ≤ r

theorem Both.goes {w wr w' : World} {p r : Nat} {s : St} (h : Both w wr p r s) (hb : Below wr.heap.size wr w') : Both w w' p r s :=
  ⟨h.win, h.mine.below hb, h.ref.below hb, h.below.trans (hb.mono h.below.size), h.ne, h.hp, h.hr⟩

/-- Noted in the one, then in the other. -/
theorem Both.note {w wr w1 w2 : World} {p r : Nat} {s : St} (h : Both w wr p r s) (k : Int) (e : Bool) (h1 : SeenIn w1 p (noteS s k e)) (g1 : wr.grownBy w1 (some p)) (h2 : Ref.RSeen w2 r (noteS s k e)) (g2 : w1.grownBy w2 (some r)) : Both w w2 p r (noteS s k e) := by
  obtain ⟨v, hb⟩ := h.mine.blk
  obtain ⟨v2, hb2⟩ := (h.ref.apart h.ne.symm hb g1).blk
  exact ⟨h.win.note k e, h1.apart h.ne hb2 g2, h2, (h.below.grown g1 h.below.size (fun g hg => by simp at hg; subst hg; exact h.hp)).grown g2 (Nat.le_trans h.below.size g1.size) (fun g hg => by simp at hg; subst hg; exact h.hr), h.ne, h.hp, h.hr⟩
theorem Both.ref1 {w wr w1 : World} {p r : Nat} {s : St} (h : Both w wr p r s) (g1 : wr.grownBy w1 (some p)) : Ref.RSeen w1 r s := by
  obtain ⟨v, hb⟩ := h.mine.blk
  exact h.ref.apart h.ne.symm hb g1
/-- Told, and not owed there either. -/
theorem Both.told {w wr w1 : World} {p r : Nat} {s : St} (h : Both w wr p r s) (h1 : SeenIn w1 p ⟨s.es, false, s.nw⟩) (g1 : wr.grownBy w1 (some p)) : Both w (w1.setCell ⟨r, 1, none⟩ (.bool false)) p r ⟨s.es, false, s.nw⟩ := by
  have h2 := h.ref1 g1
  obtain ⟨v2, hb2⟩ := h2.blk
  have g2 : w1.grownBy (w1.setCell ⟨r, 1, none⟩ (.bool false)) (some r) := grown_cell _
  refine ⟨⟨h.win.ok, h.win.lo, h.win.hi, h.win.win, h.win.top⟩, h1.apart h.ne hb2 g2, ?_, (h.below.grown g1 h.below.size (fun g hg => by simp at hg; subst hg; exact h.hp)).grown g2 (Nat.le_trans h.below.size g1.size) (fun g hg => by simp at hg; subst hg; exact h.hr), h.ne, h.hp, h.hr⟩
  obtain ⟨v, h3⟩ := h2
  exact ⟨v, h3.set (j := 1) (by decide) _⟩

theorem wpAnyH_weaken {P : Program} {ops : Array Oper} {Q : Exit → Act → World → Prop} {md : Region.Mode} {S S2 : World → Prop} (hs : ∀ w, S2 w → S w) : ∀ (fuel : Nat) (listed : Array Bool) (a : Act) (w : World), wpAnyH P md ops Q S2 fuel listed a w → wpAnyH P md ops Q S fuel listed a w
  | 0, _, _, _, h => h
  | fuel + 1, _, _, _, h => ⟨h.1, fun i hi => wpOp_mono (fun a' w' h' => ⟨hs w' h'.1, wpAnyH_weaken hs fuel _ a' w' h'.2⟩) (h.2 i hi)⟩
/-- From here on another condition is held, that says more. -/
theorem wpAnyH_turn {P : Program} {ops : Array Oper} {Q : Exit → Act → World → Prop} {md : Region.Mode} {S : World → Prop} (S2 : World → Prop) {fuel : Nat} {listed : Array Bool} {a : Act} {w : World} (hs : ∀ w, S2 w → S w) (h0 : S2 w) (h : S2 w → wpAnyH P md ops Q S2 fuel listed a w) : wpAnyH P md ops Q S fuel listed a w :=
  wpAnyH_weaken hs fuel listed a w (h h0)

/-- What Frame tells, here and there. -/
def FrameC (f : FuncId) (q : Nat) (kk : Int) (M : Nat) (sp : List Int) (fl : Bool) (W : World) : Prop :=
  Calls Try.prog f #[.pointer (some ⟨q, 0, none⟩)] W fun e w' => ∃ Af cf, e = .returned (.tuple #[.agg #[.int .i64 kk, .int .i64 0, .int .i64 0, .int .i64 0, .int .i64 0, .int .i64 0, .bool false, .slice none 0 0, .slice Af M cf], .bool fl]) ∧ (M ≤ cf ∧ Rd w' w'.heap.size Af (M * 2) (ints sp)) ∧ Below W.heap.size W w'
theorem frames_both {s : St} (hw : Win s) : ∃ kk M sp fl, M ≤ 8 ∧ (∀ W p, SeenIn W p s → FrameC 30 p kk M sp fl W) ∧ (∀ W r, Ref.RSeen W r s → FrameC 38 r kk M sp fl W) := by
  have key : ∀ {base n : Nat} {A : Option Addr} {c : Nat} {l : List Int} {w' : World}, w'.ownsRow base 57 2 (.slice A n c) n (ints l) → n ≤ c ∧ Rd w' w'.heap.size A (n * 2) (ints l) := fun h => by
    obtain ⟨_, _, ev, hnc, _, _, r⟩ := own_form h
    simp only [Value.slice.injEq] at ev
    obtain ⟨rfl, _, rfl⟩ := ev
    exact ⟨hnc, r⟩
  rcases Int.lt_or_le s.nw 0 with h0 | h0
  · refine ⟨0, 0, [], false, by omega, fun W p h => ?_, fun W r h => ?_⟩
    · refine (frame_no s hw h0 p W h).mono ?_
      rintro e w' ⟨rfl, h1⟩
      exact ⟨none, 0, rfl, ⟨Nat.le_refl _, Rd.nil _ _ _⟩, h1⟩
    · refine (Ref.rframe_any s hw r W h).mono ?_
      rintro e w' ⟨_, h1, h2⟩
      exact ⟨none, 0, h1 h0, ⟨Nat.le_refl _, Rd.nil _ _ _⟩, h2⟩
  · refine ⟨2, min (s.es.length / 2) 8, (ackF s.es).spans, true, by omega, fun W p h => ?_, fun W r h => ?_⟩
    · refine (frame_yes s hw h0 p W h).mono ?_
      rintro e w' ⟨A, c, rfl, h1, h2⟩
      exact ⟨A, c, rfl, key h1, h2⟩
    · refine (Ref.rframe_any s hw r W h).mono ?_
      rintro e w' ⟨h1, _, h2⟩
      obtain ⟨A, c, rfl, h3⟩ := h1 h0
      exact ⟨A, c, rfl, key h3, h2⟩
end Go.Proofs.Ytoglpjgmnojdjaa.Sp
