/- The reference's window alone in a block; both beside each other. Conditions: as each theorem lists them. -/
import Derived.Test.YtdfnhapclojecaaCc
import Derived.Test.YtdfnhapclojecaaCg1
set_option linter.unusedSimpArgs false
set_option linter.unusedVariables false
namespace Go.Proofs.Ytdfnhapclojecaa.Cg
open Go Go.RowKit Go.Proofs.Ytdfnhapclojecaa

theorem rgood_sw (w : World) (p : Nat) (T : TypeId) (s : Win) (h : SW w p T s) (hok : OkW s) (n : Int) (hn : -9223372036854775808 ≤ n ∧ n ≤ 9223372036854775807) :
    Calls Try.prog 14 #[.pointer (some ⟨p, 0, none⟩), .int .i64 n] w fun e w' => e = .returned (.tuple #[]) ∧ SW w' p T (goodN n.toNat s) ∧ w.grownBy w' (some p) := by
  obtain ⟨cur, h, hc⟩ := h
  refine (rgood_any w p 0 T cur s h hok n hn).mono ?_
  rintro e w' ⟨rfl, cur', h', hs, hg⟩
  exact ⟨rfl, ⟨cur', h', hs.1.trans hc⟩, hg⟩
theorem rbad_sw (w : World) (p : Nat) (T : TypeId) (s : Win) (h : SW w p T s) (hok : OkW s) (num next : Int) :
    Calls Try.prog 13 #[.pointer (some ⟨p, 0, none⟩), .int .i64 num, .int .i64 next] w fun e w' => e = .returned (.tuple #[]) ∧ SW w' p T (badS s num next) ∧ w.grownBy w' (some p) := by
  obtain ⟨cur, h, hc⟩ := h
  refine (rbad_any w p 0 T cur s h hok num next).mono ?_
  rintro e w' ⟨rfl, cur', h', hs, hg⟩
  exact ⟨rfl, ⟨cur', h', hs.1.trans hc⟩, hg⟩
theorem rfits_sw (w : World) (p : Nat) (T : TypeId) (s : Win) (h : SW w p T s) (n : Int) :
    Calls Try.prog 16 #[.pointer (some ⟨p, 0, none⟩), .int .i64 n] w fun e w' => e = .returned (.bool (decide (n < s.size))) ∧ w' = w := by
  obtain ⟨cur, h, hc⟩ := h
  exact rfits_any w p 0 T cur s h n
theorem SW.set4 {w : World} {p : Nat} {T : TypeId} {s : Win} (h : SW w p T s) (a b c d : Int) :
    SW ((((w.setCell ⟨p, 0, none⟩ (.int .i64 a)).setCell ⟨p, 1, none⟩ (.int .i64 b)).setCell ⟨p, 2, none⟩ (.int .i64 c)).setCell ⟨p, 3, none⟩ (.int .i64 d)) p T ⟨a, b, c, d⟩ ∧ w.grownBy ((((w.setCell ⟨p, 0, none⟩ (.int .i64 a)).setCell ⟨p, 1, none⟩ (.int .i64 b)).setCell ⟨p, 2, none⟩ (.int .i64 c)).setCell ⟨p, 3, none⟩ (.int .i64 d)) (some p) := by
  obtain ⟨cur, h, hc⟩ := h
  refine ⟨⟨_, (((h.set0 a).set1 b).set2 c).set3 d, by simp only [Array.size_setIfInBounds]; exact hc⟩, grown_set (grown_set (grown_set (grown_set (grown_refl _ _) _ _) _ _) _ _) _ _⟩
/-- The program's and the reference's window are the same. -/
structure BothW (w0 w : World) (p r : Nat) (s : Win) : Prop where
  a : SW w p 23 s
  b : SW w r 29 s
  ok : OkW s
  ne : p < r
  lt : w0.heap.size ≤ p
  be : Below w0.heap.size w0 w
theorem BothW.below {w0 w w' : World} {p r B : Nat} {s : Win} (h : BothW w0 w p r s) (hb : Below B w w') (hB : w.heap.size ≤ B) : BothW w0 w' p r s :=
  ⟨h.a.below hb (Nat.lt_of_lt_of_le h.a.lt hB), h.b.below hb (Nat.lt_of_lt_of_le h.b.lt hB), h.ok, h.ne, h.lt, h.be.trans (hb.mono (by have := h.a.lt; have := h.lt; omega))⟩
theorem BothW.turn {w0 w w1 w2 : World} {p r : Nat} {s s' : Win} (h : BothW w0 w p r s) (h1 : SW w1 p 23 s') (g1 : w.grownBy w1 (some p)) (h2 : SW w2 r 29 s') (g2 : w1.grownBy w2 (some r)) (hok : OkW s') : BothW w0 w2 p r s' :=
  ⟨h1.kept g2 (by have := h.ne; omega), h2, hok, h.ne, h.lt, (h.be.grown g1 (by have := h.a.lt; have := h.lt; omega) (by rintro k hk; cases hk; exact h.lt)).grown g2 (by have := h1.lt; have := h.lt; omega) (by rintro k hk; cases hk; have := h.lt; have := h.ne; omega)⟩
end Go.Proofs.Ytdfnhapclojecaa.Cg
