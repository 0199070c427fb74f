/- A stream, what was written, and what was taken of it, side by side. Conditions: as each theorem lists them. -/
import Derived.Test.YtcglhoochmfmiaaJZm
import Derived.Test.YtcglhoochmfmiaaJZn
set_option linter.unusedSimpArgs false
set_option linter.unusedVariables false

namespace Go.Proofs.Ytcglhoochmfmiaa.Re
open Go Go.RowKit Go.Proofs.Ytcglhoochmfmiaa Go.Proofs.Ytcglhoochmfmiaa.Sp Go.Proofs.Ytcglhoochmfmiaa.Se Go.Maps

structure SI (w wr : World) (p n : Nat) (F : List Nat) (s : Rs) (A1 : Option Addr) (al : List Nat) (v : Value) (t : Nat) : Prop where
  hr : HR w wr p n F s
  all : RowO wr F A1 al
  alq : 0 < al.length → ∀ a, A1 = some a → a.block ∉ fp v
  got : wr.ownsRow w.heap.size 5 1 v t (bv (al.take t))
  far : ∀ k ∈ fp v, k ∉ F
section
variable {w wr w' : World} {p n n' : Nat} {F F' : List Nat} {s s' : Rs} {A1 : Option Addr} {al : List Nat} {v v' : Value} {t m : Nat}
theorem SI.call (h : SI w wr p n F s A1 al v t) (h1 : HR w w' p n' F' s') (hg : Goes wr w' F F') : SI w w' p n' F' s' A1 al v t :=
  ⟨h1, h.all.go hg, h.alq, own_kept h.got hg.1 h.far, fun k hk hm => (hg.2 k hm).elim (h.far k hk) (fun hh => by have := (h.got.lt k (fp_own.1 hk)).2; omega)⟩
theorem SI.below (h : SI w wr p n F s A1 al v t) (hb : Below wr.heap.size wr w') : SI w w' p n F s A1 al v t := h.call (h.hr.below hb) (Goes.below F hb)
theorem SI.push (h : SI w wr p n F s A1 al v t) (hg : wr.grownBy w' v.ownBlock) (ho : w'.ownsRow w.heap.size 5 1 v' (t + m) (bv (al.take t) ++ bv ((al.drop t).take m))) (hn : ∀ k ∈ fp v', k ∈ fp v ∨ k = wr.heap.size) : SI w w' p n F s A1 al v' (t + m) := by
  have hk : Kept (fp v) wr w' := ⟨hg.os, hg.tape, hg.output, hg.size, fun k hk hm => hg.block k hk fun e => hm (fp_own.2 e.symm)⟩
  have hlt := h.hr.lt
  obtain ⟨⟨a, b, h1⟩, h2, h3⟩ := h.hr
  refine ⟨⟨⟨a, b, h1.kept hk fun k hk' hm => h.far k hm hk'⟩, h2, h3.grown hg h3.size (fun k hk' => (h.got.lt k hk').1)⟩, ⟨rd_kept h.all.1 hk h.alq, h.all.2⟩, fun h0 a ea hm => ?_, ?_, fun k hk' hm => ?_⟩
  · rcases hn _ hm with hx | hx
    · exact h.alq h0 a ea hx
    · obtain ⟨b, o, e, hb, _⟩ := h.all.1.2 h0
      rw [ea] at e
      cases e
      exact absurd hb (by have : b = wr.heap.size := hx; omega)
  · rw [List.take_add, bv_app]; exact ho
  · rcases hn k hk' with hx | hx
    · exact h.far k hx hm
    · have := hlt k hm; omega
theorem SI.gotStr {Av : Option Addr} {cv : Nat} (h : SI w wr p n F s A1 al (.slice Av t cv) t) : (convert 30 9 (.slice Av t cv)).run Try.prog wr = .ok (.string (strOf (al.take t))) wr := by
  obtain ⟨A', c', e', _, _, _, hr'⟩ := own_form h.got
  simp only [Value.slice.injEq] at e'
  obtain ⟨rfl, _, rfl⟩ := e'
  rw [Nat.mul_one] at hr'
  exact conv_run wr 30 9 5 Try.underlying30 Try.underlying5 Try.underlying9 wr.heap.size Av t cv (al.take t) hr'
theorem SI.allStr (h : SI w wr p n F s A1 al v t) (k : Nat) (hk : k ≤ al.length) (c : Nat) : (convert 30 9 (.slice A1 k c)).run Try.prog wr = .ok (.string (strOf (al.take k))) wr := by
  have h1 := str_hr (h.all.take k hk) c
  rw [List.length_take, Nat.min_eq_left hk] at h1
  exact h1
end
end Go.Proofs.Ytcglhoochmfmiaa.Re
