/- Rows of items on their way. Conditions: as each theorem lists them. -/
import Derived.Test.YtlaopkkfgkcejaaJQuKn
set_option linter.unusedSimpArgs false
set_option linter.unusedVariables false

namespace Go.Proofs.Ytlaopkkfgkcejaa.Qu
open Go Go.RowKit Go.Proofs.Ytlaopkkfgkcejaa

/-- A block of bytes. -/
def By (w : World) (b : Nat) : Prop := ∃ cur fr, w.heap[b]? = some (.cells cur 5 fr)
/-- An item of a row on its way: its bytes lie in a block of bytes, lo or behind it. -/
structure ItB (w : World) (lo : Nat) (q : It) : Prop where
  ok : ItOk w lo q
  byt : 0 < q.n → ∀ b off, q.A = some ⟨b, off, none⟩ → By w b
section
variable {w w' : World} {lo base n k : Nat} {v v' : Value} {q : It} {qs : List It} {xs : List Value}
theorem ItB.blk (h : ItB w lo q) (h0 : 0 < q.n) : ∃ b off, q.A = some ⟨b, off, none⟩ ∧ lo ≤ b ∧ b < w.heap.size ∧ By w b := by
  obtain ⟨b, off, e, h1, h2, _⟩ := h.ok.at'.2 h0
  exact ⟨b, off, e, h1, h2, h.byt h0 b off e⟩
theorem ItB.keep (h : ItB w lo q) (hs : w.heap.size ≤ w'.heap.size) (hb : ∀ b, lo ≤ b → b < w.heap.size → By w b → w'.heap[b]? = w.heap[b]?) : ItB w' lo q := by
  refine ⟨⟨⟨h.ok.at'.1, fun h0 => ?_⟩, h.ok.cap, h.ok.lt⟩, fun h0 b off e => ?_⟩
  · obtain ⟨b, off, e, h1, h2, h3⟩ := h.ok.at'.2 h0
    refine ⟨b, off, e, h1, by omega, fun j u hu => ?_⟩
    have := h3 j u hu
    simp only [World.cell?, hb b h1 h2 (h.byt h0 b off e)] at this ⊢
    exact this
  · obtain ⟨b', off', e', h1, h2, hB⟩ := h.blk h0
    rw [e] at e'; cases e'
    obtain ⟨cur, fr, hh⟩ := hB
    exact ⟨cur, fr, (hb b h1 h2 ⟨cur, fr, hh⟩).trans hh⟩
theorem ItB.below (h : ItB w lo q) (hb : Below w.heap.size w w') : ItB w' lo q := h.keep hb.size fun b _ h2 _ => hb.block b h2
theorem ItB.row (h : ItB w lo q) (ho : w.ownsRow base 24 2 v n xs) (hg : w.grownBy w' v.ownBlock) : ItB w' lo q := by
  refine h.keep hg.size fun b _ h2 hB => hg.block b h2 fun e => ?_
  rcases ho.2 with ⟨rfl, _⟩ | ⟨g, cap, cur, rfl, _, hh, _⟩
  · simp [Value.ownBlock] at e
  · simp [Value.ownBlock] at e
    subst e
    obtain ⟨cur', fr, hh'⟩ := hB
    rw [hh] at hh'
    simp at hh'
theorem ItB.less {lo' : Nat} (h : ItB w lo q) (hl : lo' ≤ lo) : ItB w lo' q := ⟨h.ok.less hl, h.byt⟩
/-- The row on its way. -/
def RowQ (w : World) (lo : Nat) (v : Value) (k : Nat) (qs : List It) : Prop := qs.length = k ∧ w.ownsRow lo 24 2 v k (its qs) ∧ ∀ q ∈ qs, ItB w lo q
theorem RowQ.nil (w : World) (lo : Nat) : RowQ w lo (.slice none 0 0) 0 [] := ⟨rfl, own_nil _ _ _ _, fun _ h => by cases h⟩
theorem RowQ.below (h : RowQ w lo v k qs) (hb : Below w.heap.size w w') : RowQ w' lo v k qs := ⟨h.1, own_below h.2.1 hb, fun q hq => (h.2.2 q hq).below hb⟩
theorem RowQ.push (h : RowQ w lo v k qs) (hq : ItB w lo q) (ho : w'.ownsRow lo 24 2 v' (k + 1) (its qs ++ itC q)) (hg : w.grownBy w' v.ownBlock) : RowQ w' lo v' (k + 1) (qs ++ [q]) := by
  refine ⟨by simp [h.1], by rw [its_app]; simpa [its] using ho, fun x hx => ?_⟩
  rw [List.mem_append] at hx
  rcases hx with hx | hx
  · exact (h.2.2 x hx).row h.2.1 hg
  · have : x = q := by simpa using hx
    subst this
    exact hq.row h.2.1 hg
theorem by_new (w : World) (cur : Array Value) : By (w.alloc (.cells cur 5)) w.heap.size := ⟨cur, (0, 0), heap_alloc_new w _⟩
end
/-- An item whose bytes are a new block of one byte. -/
theorem itb_one (w : World) (lo : Nat) (hlo : lo ≤ w.heap.size) (k : Int) (x : Nat) (hx : x < 256) : ItB (w.alloc (.cells #[.int .u8 (x : Int)] 5)) lo ⟨k, some ⟨w.heap.size, 0, none⟩, 1, 1, [x]⟩ :=
  ⟨⟨at_new _ _ _ _ _ _ _ rfl hlo rfl rfl, Nat.le_refl _, by simpa using hx⟩, fun _ b off e => by cases e; exact by_new _ _⟩
theorem fill_it (k : Int) (A : Option Addr) (n c : Nat) :
    Instr.fill (fun i => some (i * 2, 2)) ((Array.range (1 * 2)).map ((Value.agg #[.int .i64 0, .slice none 0 0]).cells[· % (Value.agg #[.int .i64 0, .slice none 0 0]).cells.size]!)) [(0, Value.agg #[.int .i64 k, .slice A n c])] = some #[.int .i64 k, .slice A n c] := by kernel_rfl
end Go.Proofs.Ytlaopkkfgkcejaa.Qu
