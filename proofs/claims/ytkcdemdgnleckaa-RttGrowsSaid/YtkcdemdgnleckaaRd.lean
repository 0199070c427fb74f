/- A Rtt in a block of its own, in a law. Conditions: as each theorem lists them. -/
import Derived.Test.YtkcdemdgnleckaaRc
import Derived.Test.YtkcdemdgnleckaaMm
set_option linter.unusedSimpArgs false
set_option linter.unusedVariables false
namespace Go.Proofs.Ytkcdemdgnleckaa.Rtt
open Go Go.RowKit

/-- Block p, of type T, is an estimate s; what was there ahead of the law is as it was. -/
structure One (w wr : World) (p : Nat) (T : TypeId) (s : RS) : Prop where
  cur : wr.heap[p]? = some (.cells #[.int .i64 s.sm, .int .i64 s.va, .int .i64 s.bk, .bool s.so] T (0, 0))
  good : Good s
  below : Below w.heap.size w wr
  new : w.heap.size ≤ p

theorem four {cur : Array Value} {s : RS} (h : RtAt cur 0 s) (hn : cur.size = 4) : cur = #[.int .i64 s.sm, .int .i64 s.va, .int .i64 s.bk, .bool s.so] := by
  apply Array.ext_getElem?
  intro i
  have h0 := h.c0
  have h1 := h.c1
  have h2 := h.c2
  have h3 := h.c3
  match i with
  | 0 => exact h0
  | 1 => simpa using h1
  | 2 => simpa using h2
  | 3 => simpa using h3
  | i + 4 => rw [Array.getElem?_eq_none (by omega), Array.getElem?_eq_none (by simp)]

theorem One.in {w wr : World} {p : Nat} {T : TypeId} {s : RS} (h : One w wr p T s) : RtIn wr p 0 T #[.int .i64 s.sm, .int .i64 s.va, .int .i64 s.bk, .bool s.so] s := ⟨h.cur, ⟨rfl, rfl, rfl, rfl⟩⟩
theorem One.lt {w wr : World} {p : Nat} {T : TypeId} {s : RS} (h : One w wr p T s) : p < wr.heap.size := slot_lt h.cur
theorem One.to {w wr w' : World} {p : Nat} {T : TypeId} {s s' : RS} (h : One w wr p T s) (hg : Good s') (ht : RtTo wr w' p 0 T #[.int .i64 s.sm, .int .i64 s.va, .int .i64 s.bk, .bool s.so] s') : One w w' p T s' ∧ wr.grownBy w' (some p) := by
  obtain ⟨c, ⟨h0, h1⟩, h2, h3⟩ := ht
  rw [four h1 h2.1] at h0
  exact ⟨⟨h0, hg, h.below.grown h3 h.below.size (fun g hg => by simp at hg; subst hg; exact h.new), h.new⟩, h3⟩
theorem One.goes {w wr w' : World} {p : Nat} {T : TypeId} {s : RS} (h : One w wr p T s) (hb : Below wr.heap.size wr w') : One w w' p T s :=
  ⟨(hb.block p h.lt).trans h.cur, h.good, h.below.trans (hb.mono h.below.size), h.new⟩
theorem One.but {w wr w' : World} {p q : Nat} {T : TypeId} {s : RS} (h : One w wr p T s) (hg : wr.grownBy w' (some q)) (hq : w.heap.size ≤ q) (hpq : p ≠ q) : One w w' p T s :=
  ⟨(hg.block p h.lt (by simp; omega)).trans h.cur, h.good, h.below.grown hg h.below.size (fun g hg => by simp at hg; subst hg; exact hq), h.new⟩
theorem One.drew {w wr : World} {p : Nat} {T : TypeId} {s : RS} (h : One w wr p T s) : One w wr.drew p T s := ⟨h.cur, h.good, h.below.drew, h.new⟩
theorem One.drewN {w wr : World} {p : Nat} {T : TypeId} {s : RS} (h : One w wr p T s) (n : Nat) : One w (wr.drewN n) p T s := ⟨h.cur, h.good, ⟨h.below.os, h.below.tape, h.below.output, h.below.size, h.below.block⟩, h.new⟩
theorem One.cells {w wr : World} {p : Nat} {T : TypeId} {s : RS} (h : One w wr p T s) : wr.cell? ⟨p, 0, none⟩ = some (.int .i64 s.sm) ∧ wr.cell? ⟨p, 1, none⟩ = some (.int .i64 s.va) ∧ wr.cell? ⟨p, 2, none⟩ = some (.int .i64 s.bk) ∧ wr.cell? ⟨p, 3, none⟩ = some (.bool s.so) ∧ ∀ k, wr.frozen? ⟨p, k, none⟩ = false := h.in.cells
theorem One.back {w wr : World} {p : Nat} {T : TypeId} {s : RS} (h : One w wr p T s) (b : Int) : One w (wr.setCell ⟨p, 2, none⟩ (.int .i64 b)) p T (back s b) ∧ wr.grownBy (wr.setCell ⟨p, 2, none⟩ (.int .i64 b)) (some p) :=
  h.to (h.good.back b) (h.in.here.bk b)

theorem sample_one {w wr : World} {p : Nat} {s : RS} (T : TypeId) (h : One w wr p T s) (x : Int) :
    Calls Try.prog 9 #[.pointer (some ⟨p, 0, none⟩), .int .i64 x] wr fun e w' => e = .returned (.tuple #[]) ∧ One w w' p T (samp s x) ∧ wr.grownBy w' (some p) :=
  (sample_any s h.good x p 0 T _ wr h.in).mono fun _ _ ⟨e, ht⟩ => ⟨e, h.to (h.good.samp x) ht⟩
theorem round_one {w wr : World} {p : Nat} {s : RS} (T : TypeId) (h : One w wr p T s) :
    Calls Try.prog 11 #[.pointer (some ⟨p, 0, none⟩)] wr fun e w' => e = .returned (.int .i64 (roundF s)) ∧ w' = wr := round_any s h.good p 0 T _ wr h.in
theorem late_one {w wr : World} {p : Nat} {s : RS} (T : TypeId) (h : One w wr p T s) :
    Calls Try.prog 12 #[.pointer (some ⟨p, 0, none⟩)] wr fun e w' => e = .returned (.int .i64 (lateF s)) ∧ w' = wr := late_any s h.good p 0 T _ wr h.in
theorem wait_one {w wr : World} {p : Nat} {s : RS} (T : TypeId) (h : One w wr p T s) :
    Calls Try.prog 8 #[.pointer (some ⟨p, 0, none⟩)] wr fun e w' => e = .returned (.int .i64 (waitF s)) ∧ w' = wr := wait_any s h.good p 0 T _ wr h.in
theorem rsample_one {w wr : World} {p : Nat} {s : RS} (T : TypeId) (h : One w wr p T s) (x : Int) :
    Calls Try.prog 15 #[.pointer (some ⟨p, 0, none⟩), .int .i64 x] wr fun e w' => e = .returned (.tuple #[]) ∧ One w w' p T (samp s x) ∧ wr.grownBy w' (some p) :=
  (rsample_any s h.good x p 0 T _ wr h.in).mono fun _ _ ⟨e, ht⟩ => ⟨e, h.to (h.good.samp x) ht⟩
theorem rround_one {w wr : World} {p : Nat} {s : RS} (T : TypeId) (h : One w wr p T s) :
    Calls Try.prog 16 #[.pointer (some ⟨p, 0, none⟩)] wr fun e w' => e = .returned (.int .i64 (roundF s)) ∧ w' = wr := rround_any s h.good p 0 T _ wr h.in
theorem rlate_one {w wr : World} {p : Nat} {s : RS} (T : TypeId) (h : One w wr p T s) :
    Calls Try.prog 18 #[.pointer (some ⟨p, 0, none⟩)] wr fun e w' => e = .returned (.int .i64 (lateF s)) ∧ w' = wr := rlate_any s h.good p 0 T _ wr h.in
theorem rwait_one {w wr : World} {p : Nat} {s : RS} (T : TypeId) (h : One w wr p T s) :
    Calls Try.prog 17 #[.pointer (some ⟨p, 0, none⟩)] wr fun e w' => e = .returned (.int .i64 (waitF s)) ∧ ∃ q, w' = wr.drewN q := rwait_any s h.good p 0 T _ wr h.in

theorem One.new_ {w wr : World} (hb : Below w.heap.size w wr) (T : TypeId) (p : Nat) (hp : p = wr.heap.size) : One w (wr.alloc (.cells #[.int .i64 0, .int .i64 0, .int .i64 0, .bool false] T)) p T r0 := by
  subst hp
  exact ⟨heap_alloc_new _ _, good0, hb.alloc hb.size _, hb.size⟩
end Go.Proofs.Ytkcdemdgnleckaa.Rtt
