/- A credit and a grant that lie alone in a block; a call of two numbers. Conditions: as each theorem lists them. -/
import Derived.Test.YtninmfobgjkekaaKc
set_option linter.unusedSimpArgs false
set_option linter.unusedVariables false
namespace Go.Proofs.Ytninmfobgjkekaa.Cr
open Go Go.RowKit Go.Proofs.Ytninmfobgjkekaa Go.Proofs.Ytninmfobgjkekaa.Cg

def SC (w : World) (p : Nat) (T : TypeId) (l u : Int) : Prop := ∃ cur, CredIn w p 0 T cur l u ∧ cur.size = 2
def SG (w : World) (p : Nat) (T : TypeId) (rm rd tl : Int) : Prop := ∃ cur, GrIn w p 0 T cur rm rd tl ∧ cur.size = 3
section
variable {w w' : World} {p q B : Nat} {T : TypeId} {l u rm rd tl : Int}
theorem SC.lt (h : SC w p T l u) : p < w.heap.size := by obtain ⟨cur, h, _⟩ := h; exact lt_of_block h.hp
theorem SG.lt (h : SG w p T rm rd tl) : p < w.heap.size := by obtain ⟨cur, h, _⟩ := h; exact lt_of_block h.hp
theorem SC.new (w : World) (T : TypeId) (a b : Int) : SC (w.alloc (.cells #[.int .i64 a, .int .i64 b] T)) w.heap.size T a b := ⟨_, ⟨heap_alloc_new w _, rfl, rfl⟩, rfl⟩
theorem SG.new (w : World) (T : TypeId) (a b c : Int) : SG (w.alloc (.cells #[.int .i64 a, .int .i64 b, .int .i64 c] T)) w.heap.size T a b c := ⟨_, ⟨heap_alloc_new w _, rfl, rfl, rfl⟩, rfl⟩
theorem SC.kept (h : SC w p T l u) (hg : w.grownBy w' (some q)) (hne : p ≠ q) : SC w' p T l u := by
  obtain ⟨cur, h, hc⟩ := h
  exact ⟨cur, ⟨(hg.block p (lt_of_block h.hp) (by simpa using hne)).trans h.hp, h.c0, h.c1⟩, hc⟩
theorem SG.kept (h : SG w p T rm rd tl) (hg : w.grownBy w' (some q)) (hne : p ≠ q) : SG w' p T rm rd tl := by
  obtain ⟨cur, h, hc⟩ := h
  exact ⟨cur, ⟨(hg.block p (lt_of_block h.hp) (by simpa using hne)).trans h.hp, h.c0, h.c1, h.c2⟩, hc⟩
theorem SC.below (h : SC w p T l u) (hb : Below B w w') (hp : p < B) : SC w' p T l u := by
  obtain ⟨cur, h, hc⟩ := h
  exact ⟨cur, ⟨(hb.block p hp).trans h.hp, h.c0, h.c1⟩, hc⟩
theorem SG.below (h : SG w p T rm rd tl) (hb : Below B w w') (hp : p < B) : SG w' p T rm rd tl := by
  obtain ⟨cur, h, hc⟩ := h
  exact ⟨cur, ⟨(hb.block p hp).trans h.hp, h.c0, h.c1, h.c2⟩, hc⟩
theorem SC.drewN (h : SC w p T l u) (m : Nat) : SC (w.drewN m) p T l u := by
  obtain ⟨cur, h, hc⟩ := h
  exact ⟨cur, h.drewN m, hc⟩
theorem SG.drewN (h : SG w p T rm rd tl) (m : Nat) : SG (w.drewN m) p T rm rd tl := by
  obtain ⟨cur, h, hc⟩ := h
  exact ⟨cur, h.drewN m, hc⟩
theorem SC.cell (h : SC w p T l u) : w.cell? ⟨p, 0, none⟩ = some (.int .i64 l) ∧ w.cell? ⟨p, 1, none⟩ = some (.int .i64 u) ∧ ∀ j, w.frozen? ⟨p, j, none⟩ = false := by
  obtain ⟨cur, h, _⟩ := h
  exact h.cell
theorem SG.cell (h : SG w p T rm rd tl) : w.cell? ⟨p, 0, none⟩ = some (.int .i64 rm) ∧ w.cell? ⟨p, 1, none⟩ = some (.int .i64 rd) ∧ w.cell? ⟨p, 2, none⟩ = some (.int .i64 tl) ∧ ∀ j, w.frozen? ⟨p, j, none⟩ = false := by
  obtain ⟨cur, h, _⟩ := h
  exact h.cell
theorem CredTo.sc {cur : Array Value} (h : CredTo w w' p 0 T cur l u) (hc : cur.size = 2) : SC w' p T l u ∧ w.grownBy w' (some p) := by
  obtain ⟨c, h1, h2, h3⟩ := h
  exact ⟨⟨c, h1, h2.1.trans hc⟩, h3⟩
theorem GrTo.sg {cur : Array Value} (h : GrTo w w' p 0 T cur rm rd tl) (hc : cur.size = 3) : SG w' p T rm rd tl ∧ w.grownBy w' (some p) := by
  obtain ⟨c, h1, h2, h3⟩ := h
  exact ⟨⟨c, h1, h2.1.trans hc⟩, h3⟩

/-- What a credit holds in these laws. -/
def OkC (l u : Int) : Prop := 0 ≤ u ∧ u ≤ l ∧ l ≤ 4611686018427387903
theorem OkC.left (h : OkC l u) : leftF l u = l - u := by obtain ⟨h0, h1, h2⟩ := h; unfold leftF; omega
theorem OkC.use (h : OkC l u) (n : Int) : OkC l (if useB l u n = true then u + n else u) := by
  obtain ⟨h0, h1, h2⟩ := h
  split
  · rename_i hu
    obtain ⟨hu1, hu2⟩ : 0 ≤ n ∧ n ≤ leftF l u := of_decide_eq_true hu
    unfold leftF at hu2
    exact ⟨by omega, by omega, h2⟩
  · exact ⟨h0, h1, h2⟩
theorem OkC.raise (h : OkC l u) (n : Int) : OkC (if raiseB l n = true then n else l) u := by
  obtain ⟨h0, h1, h2⟩ := h
  split
  · rename_i hu
    obtain ⟨hu1, hu2⟩ : l < n ∧ n ≤ 4611686018427387903 := of_decide_eq_true hu
    exact ⟨h0, by omega, hu2⟩
  · exact ⟨h0, h1, h2⟩

theorem left_sc (h : SC w p T l u) (ho : OkC l u) :
    Calls Try.prog 13 #[.pointer (some ⟨p, 0, none⟩)] w fun e w' => e = .returned (.int .i64 (l - u)) ∧ ∃ q, w' = w.drewN q := by
  obtain ⟨cur, h, hc⟩ := h
  rw [← ho.left]
  obtain ⟨h0, h1, h2⟩ := ho
  exact left_any h ⟨by omega, by omega⟩ ⟨by omega, by omega⟩
theorem use_sc (h : SC w p T l u) (ho : OkC l u) (n : Int) :
    Calls Try.prog 7 #[.pointer (some ⟨p, 0, none⟩), .int .i64 n] w fun e w' => e = .returned (.bool (useB l u n)) ∧ SC w' p T l (if useB l u n = true then u + n else u) ∧ w.grownBy w' (some p) := by
  obtain ⟨cur, h, hc⟩ := h
  obtain ⟨h0, h1, h2⟩ := ho
  exact (use_any h ⟨by omega, by omega⟩ ⟨by omega, by omega⟩ n).mono fun e w' h => ⟨h.1, h.2.sc hc⟩
theorem raise_sc (h : SC w p T l u) (n : Int) :
    Calls Try.prog 8 #[.pointer (some ⟨p, 0, none⟩), .int .i64 n] w fun e w' => e = .returned (.bool (raiseB l n)) ∧ SC w' p T (if raiseB l n = true then n else l) u ∧ w.grownBy w' (some p) := by
  obtain ⟨cur, h, hc⟩ := h
  exact (raise_any h n).mono fun e w' h => ⟨h.1, h.2.sc hc⟩
theorem eat_sg (h : SG w p T rm rd tl) (hrd : 0 ≤ rd ∧ rd ≤ 9223372036853727231) (n : Int) :
    Calls Try.prog 10 #[.pointer (some ⟨p, 0, none⟩), .int .i64 n] w fun e w' => e = .returned (.tuple #[]) ∧ SG w' p T rm (rd + eatF n) tl ∧ w.grownBy w' (some p) := by
  obtain ⟨cur, h, hc⟩ := h
  exact (eat_any h hrd n).mono fun e w' h => ⟨h.1, h.2.sg hc⟩
theorem due_sg (h : SG w p T rm rd tl) (hrd : 0 ≤ rd) (hrm : 1 ≤ rm) (hs : rd + rm ≤ 9223372036854775807) (ht : 0 ≤ tl) :
    Calls Try.prog 11 #[.pointer (some ⟨p, 0, none⟩)] w fun e w' => e = .returned (.tuple #[.int .i64 (rd + rm), .bool (dueB rm rd tl)]) ∧ ∃ q, w' = w.drewN q := by
  obtain ⟨cur, h, hc⟩ := h
  exact due_any h hrd hrm hs ht
theorem tell_sg (h : SG w p T rm rd tl) (hrd : 0 ≤ rd) (hrm : 0 ≤ rm) (hs : rd + rm ≤ 9223372036854775807) :
    Calls Try.prog 14 #[.pointer (some ⟨p, 0, none⟩)] w fun e w' => e = .returned (.int .i64 (max tl (rd + rm))) ∧ SG w' p T rm rd (max tl (rd + rm)) ∧ w.grownBy w' (some p) := by
  obtain ⟨cur, h, hc⟩ := h
  exact (tell_any h hrd hrm hs).mono fun e w' h => ⟨h.1, h.2.sg hc⟩
theorem rleft_sc (h : SC w p T l u) (ho : OkC l u) :
    Calls Try.prog 23 #[.pointer (some ⟨p, 0, none⟩)] w fun e w' => e = .returned (.int .i64 (l - u)) ∧ ∃ q, w' = w.drewN q := by
  obtain ⟨cur, h, hc⟩ := h
  rw [← ho.left]
  obtain ⟨h0, h1, h2⟩ := ho
  exact rleft_any h ⟨by omega, by omega⟩ ⟨by omega, by omega⟩
theorem ruse_sc (h : SC w p T l u) (ho : OkC l u) (n : Int) :
    Calls Try.prog 18 #[.pointer (some ⟨p, 0, none⟩), .int .i64 n] w fun e w' => e = .returned (.bool (useB l u n)) ∧ SC w' p T l (if useB l u n = true then u + n else u) ∧ w.grownBy w' (some p) := by
  obtain ⟨cur, h, hc⟩ := h
  obtain ⟨h0, h1, h2⟩ := ho
  exact (ruse_any h ⟨by omega, by omega⟩ ⟨by omega, by omega⟩ n).mono fun e w' h => ⟨h.1, h.2.sc hc⟩
theorem rraise_sc (h : SC w p T l u) (n : Int) :
    Calls Try.prog 19 #[.pointer (some ⟨p, 0, none⟩), .int .i64 n] w fun e w' => e = .returned (.bool (raiseB l n)) ∧ SC w' p T (if raiseB l n = true then n else l) u ∧ w.grownBy w' (some p) := by
  obtain ⟨cur, h, hc⟩ := h
  exact (rraise_any h n).mono fun e w' h => ⟨h.1, h.2.sc hc⟩
theorem reat_sg (h : SG w p T rm rd tl) (hrd : 0 ≤ rd ∧ rd ≤ 9223372036853727231) (n : Int) :
    Calls Try.prog 20 #[.pointer (some ⟨p, 0, none⟩), .int .i64 n] w fun e w' => e = .returned (.tuple #[]) ∧ SG w' p T rm (rd + eatF n) tl ∧ w.grownBy w' (some p) := by
  obtain ⟨cur, h, hc⟩ := h
  exact (reat_any h hrd n).mono fun e w' h => ⟨h.1, h.2.sg hc⟩
theorem rdue_sg (h : SG w p T rm rd tl) (hrd : 0 ≤ rd) (hrm : 1 ≤ rm) (hs : rd + rm ≤ 9223372036854775807) (ht : 0 ≤ tl ∧ tl ≤ 9223372036854775807) :
    Calls Try.prog 22 #[.pointer (some ⟨p, 0, none⟩)] w fun e w' => e = .returned (.tuple #[.int .i64 (rd + rm), .bool (dueB rm rd tl)]) ∧ ∃ q, w' = w.drewN q := by
  obtain ⟨cur, h, hc⟩ := h
  exact rdue_any h hrd hrm hs ht
theorem rtell_sg (h : SG w p T rm rd tl) (hrd : 0 ≤ rd) (hrm : 0 ≤ rm) (hs : rd + rm ≤ 9223372036854775807) :
    Calls Try.prog 21 #[.pointer (some ⟨p, 0, none⟩)] w fun e w' => e = .returned (.int .i64 (max tl (rd + rm))) ∧ SG w' p T rm rd (max tl (rd + rm)) ∧ w.grownBy w' (some p) := by
  obtain ⟨cur, h, hc⟩ := h
  exact (rtell_any h hrd hrm hs).mono fun e w' h => ⟨h.1, h.2.sg hc⟩
end
/-- A call: two numbers in a block. -/
def RawIn (w : World) (q : Nat) (x0 x1 : Int) : Prop := w.heap[q]? = some (.cells #[.int .i64 x0, .int .i64 x1] 40 (0, 0))
theorem RawIn.new (w : World) (x0 x1 : Int) : RawIn (w.alloc (.cells #[.int .i64 x0, .int .i64 x1] 40)) w.heap.size x0 x1 := heap_alloc_new w _
theorem RawIn.lt {w : World} {q : Nat} {x0 x1 : Int} (h : RawIn w q x0 x1) : q < w.heap.size := lt_of_block h
theorem RawIn.kept {w w' : World} {q p : Nat} {x0 x1 : Int} (h : RawIn w q x0 x1) (hg : w.grownBy w' (some p)) (hne : q ≠ p) : RawIn w' q x0 x1 := (hg.block q h.lt (by simpa using hne)).trans h
theorem RawIn.below {w w' : World} {q B : Nat} {x0 x1 : Int} (h : RawIn w q x0 x1) (hb : Below B w w') (hq : q < B) : RawIn w' q x0 x1 := (hb.block q hq).trans h
theorem RawIn.cell {w : World} {q : Nat} {x0 x1 : Int} (h : RawIn w q x0 x1) : w.cell? ⟨q, 0, none⟩ = some (.int .i64 x0) ∧ w.cell? ⟨q, 1, none⟩ = some (.int .i64 x1) := by
  unfold RawIn at h
  refine ⟨?_, ?_⟩ <;> simp [World.cell?, h]
end Go.Proofs.Ytninmfobgjkekaa.Cr
