/- The abstract memory as a call begins: package-level tables and arguments, which are read alone; and from a call that returns true, and leaves what was there, to a law's statement. Conditions: as each theorem lists them. -/
import Derived.Test.YtninmfobgjkekaaAm10
import Derived.Test.YtninmfobgjkekaaLp
import Derived.ProofKit
import Derived.OpenShut
import Derived.LaidMore
import Derived.Carry
import Derived.Lib.LaidTab
import Derived.Stop.Joined
set_option linter.unusedSimpArgs false
set_option linter.unusedVariables false
namespace Go.Am
open Go Go.RowKit Go.ChangeShapes Go.WideShapes Go.ChangeAt

variable {P : Program} {G : Nat} {w0 w : World} {c : Ctx} {g : Gh} {S S' : St}

def cellsAt (w : World) (x : Nat) : Nat := match w.heap[x]? with
  | some (.cells cur _ _) => cur.size
  | _ => 0

def St.start (G : Nat) : St := { nb := G, blks := .leaf, nf := 0, fams := .leaf }

theorem Trie.get_leaf' {α : Type} (i : Nat) : (Trie.leaf : Trie α).get i = none := rfl

/-- Nothing is known yet. -/
theorem Rel.start (G : Nat) (w : World) (h : G ≤ w.heap.size) :
    Rel G w ⟨G, fun b => (b, 0), cellsAt w, fun _ => 1⟩ ⟨fun _ => none, fun _ => 0⟩ (St.start G) w :=
  ⟨rfl, ⟨Nat.le_refl _, fun _ _ => rfl⟩, Below.refl _ _, fun b k hk => (by cases hk), fun x φ hx => (by cases hx), fun φ f hf => (by cases hf), fun b hb => Nat.lt_of_lt_of_le hb h⟩

/-- A package-level table. -/
def St.tab (S : St) (i : Nat) (cells : List Value) : St :=
  { S with blks := S.blks.set depth i ⟨1, cells, S.nf, 0, 0⟩, nf := S.nf + 1, fams := S.fams.set depth S.nf ⟨0, cells.length, true⟩ }

theorem Rel.tab (h : Rel G w0 c g S w) {i : Nat} {cells : List Value} (hi : i < G) (hl : i < limit) (hf : S.nf < limit) (hes : c.es i = 1) (hcz : ∀ x, c.cz x = cellsAt w x) (hown : g.own i = none)
    (hc : ∀ (j : Nat) (v : Value), cells[j]? = some v → w.cell? ⟨i, j, none⟩ = some v ∧ af 8 v = true) (hne : cells ≠ []) : Rel G w0 c g (S.tab i cells) w := by
  have hloc := h.glob.2 i hi
  have hn := Nat.lt_of_lt_of_le hi h.glob.1
  obtain ⟨v0, hv0⟩ : ∃ v, cells[0]? = some v := by cases cells with
    | nil => exact absurd rfl hne
    | cons v l => exact ⟨v, rfl⟩
  obtain ⟨cur, e, fr, hheap⟩ : ∃ cur e fr, w.heap[i]? = some (.cells cur e fr) := by
    have h1 := (hc 0 v0 hv0).1
    unfold World.cell? at h1
    simp only at h1
    split at h1
    · rename_i cur e fr hh; exact ⟨cur, e, fr, hh⟩
    · cases h1
  have hcur : ∀ (j : Nat) (v : Value), cells[j]? = some v → cur[j]? = some v := fun j v hv => by
    have h1 := (hc j v hv).1
    rwa [cell_of w i j cur e fr hheap] at h1
  refine ⟨h.n, h.glob, h.below, fun b k hk => ?_, fun x φ hx => ?_, fun φ f hf' => ?_, h.all⟩
  · simp only [St.tab] at hk
    rw [Blk.get_set _ _ _ hl] at hk
    by_cases hb : b = i
    · rw [if_pos hb] at hk
      cases hk
      subst hb
      refine ⟨⟨0, cells.length, true⟩, cur, e, fr, hn, hes, by simp [St.tab, Fam.get_set _ _ _ hf], by rw [hloc]; exact hheap, by rw [hloc, hcz]; simp [cellsAt, hheap], fun hr => (by cases hr), fun _ => by rw [hloc]; exact hown, ?_, Nat.le_refl _, fun _ => by simp, fun _ j v hv => ?_⟩
      · rw [hloc]
        simp only [Nat.zero_add]
        rcases Nat.eq_zero_or_pos cells.length with h0 | h0
        · omega
        · have := hcur (cells.length - 1) _ (List.getElem?_eq_getElem (by omega))
          have := (Array.getElem?_eq_some_iff.1 this).1
          omega
      · rw [hloc]
        exact ⟨v, by simpa using hcur j v hv, af_refl c 8 v (hc j v hv).2⟩
    · rw [if_neg hb] at hk
      obtain ⟨f, cur', e', fr', ok⟩ := h.blk b k hk
      have hfn : k.fam ≠ S.nf := Nat.ne_of_lt (h.fam _ _ ok.fam)
      exact ⟨f, cur', e', fr', ok.keep (Ctx.le.refl _) (by simp [St.tab, Fam.get_set _ _ _ hf, hfn, ok.fam]) rfl ⟨rfl, rfl⟩⟩
  · obtain ⟨h1, h2, h3⟩ := h.own x φ hx
    exact ⟨h1, h2, by simp [St.tab]; omega⟩
  · simp only [St.tab] at hf' ⊢
    rw [Fam.get_set _ _ _ hf] at hf'
    split at hf'
    · omega
    · have := h.fam φ f hf'; omega

/-- Cells that an argument leads to. -/
def St.arg (S : St) (sz : Nat) (cells : List Value) : St :=
  { nb := S.nb + 1, blks := S.blks.set depth S.nb ⟨sz, cells, S.nf, 0, 0⟩, nf := S.nf + 1, fams := S.fams.set depth S.nf ⟨0, cells.length, true⟩ }

theorem Rel.arg (h : Rel G w0 c g S w) {x o sz : Nat} {cells : List Value} (hl : S.nb < limit) (hf : S.nf < limit) (hcz : ∀ x, c.cz x = cellsAt w x) (hown : g.own x = none)
    {cur : Array Value} {e : TypeId} {fr : Nat × Nat} (hheap : w.heap[x]? = some (.cells cur e fr)) (hfit : o + cells.length ≤ cur.size) (hc : ∀ (j : Nat) (v : Value), cells[j]? = some v → cur[o + j]? = some v ∧ af 8 v = true) :
    c.le (c.push x o (cellsAt w x) sz) ∧ Rel G w0 (c.push x o (cellsAt w x) sz) g (S.arg sz cells) w ∧ (c.push x o (cellsAt w x) sz).loc S.nb = (x, o) ∧ (c.push x o (cellsAt w x) sz).es S.nb = sz ∧ ∀ y, (c.push x o (cellsAt w x) sz).cz y = cellsAt w y := by
  have hn := h.n
  have hle : c.le (c.push x o (cellsAt w x) sz) := Ctx.push_le _ _ _ _ _ fun b _ e => hcz x
  have hx : x < w.heap.size := (Array.getElem?_eq_some_iff.1 hheap).1
  refine ⟨hle, ⟨by simp [Ctx.push, St.arg, hn], ⟨Nat.le_trans h.glob.1 hle.n, fun i hi => (hle.loc i (Nat.lt_of_lt_of_le hi h.glob.1)).trans (h.glob.2 i hi)⟩, h.below, fun b k hk => ?_, fun y φ hy => ?_, fun φ f hf' => ?_, fun b hb => ?_⟩, by simp [Ctx.push, hn], by simp [Ctx.push, hn], fun y => by simp only [Ctx.push]; split <;> simp_all⟩
  · simp only [St.arg] at hk
    rw [Blk.get_set _ _ _ hl] at hk
    by_cases hb : b = S.nb
    · rw [if_pos hb] at hk
      cases hk
      have hbn : b = c.n := hb.trans hn
      refine ⟨⟨0, cells.length, true⟩, cur, e, fr, by simp [Ctx.push, hbn], by simp [Ctx.push, hbn], by simp [St.arg, Fam.get_set _ _ _ hf], by simp only [Ctx.push, hbn, if_true]; exact hheap, by simp [Ctx.push, hbn, cellsAt, hheap], fun hr => (by cases hr), fun _ => by simp only [Ctx.push, hbn, if_true]; exact hown,
        by simp only [Ctx.push, hbn, if_true]; exact hfit, Nat.le_refl _, fun _ => by simp, fun _ j v hv => ?_⟩
      exact ⟨v, by simp only [Ctx.push, hbn, if_true]; exact (hc j v hv).1, af_refl _ 8 v (hc j v hv).2⟩
    · rw [if_neg hb] at hk
      obtain ⟨f, cur', e', fr', ok⟩ := h.blk b k hk
      have hfn : k.fam ≠ S.nf := Nat.ne_of_lt (h.fam _ _ ok.fam)
      exact ⟨f, cur', e', fr', ok.keep hle (by simp [St.arg, Fam.get_set _ _ _ hf, hfn, ok.fam]) rfl ⟨rfl, rfl⟩⟩
  · obtain ⟨h1, h2, h3⟩ := h.own y φ hy
    exact ⟨h1, h2, by simp [St.arg]; omega⟩
  · simp only [St.arg] at hf' ⊢
    rw [Fam.get_set _ _ _ hf] at hf'
    split at hf'
    · omega
    · have := h.fam φ f hf'; omega
  · simp only [Ctx.push] at hb ⊢
    split
    · exact hx
    · exact h.all b (by omega)

end Go.Am
