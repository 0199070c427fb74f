/- QueueTells: what is held. Conditions: as each theorem lists them. -/
import Derived.Test.YtlaopkkfgkcejaaJQs
import Derived.Test.YtlaopkkfgkcejaaJQc
import Derived.Test.YtlaopkkfgkcejaaJH1
set_option linter.unusedSimpArgs false
set_option linter.unusedVariables false

namespace Go.Proofs.Ytlaopkkfgkcejaa.Qu
open Go Go.RowKit Go.Proofs.Ytlaopkkfgkcejaa

section
variable {w0 w wr w' : World} {p r lo n k : Nat} {ds : List (Int × List Nat)}
theorem LQ.other (h : LQ w0 wr p lo ds) (hg : wr.grownBy w' (some r)) (hr : r ≠ p) (hl : r < lo) (h0 : w0.heap.size ≤ r) : LQ w0 w' p lo ds := by
  obtain ⟨ks, h1, h2, h3, h4, h5⟩ := h
  exact ⟨ks, h1, QAt.same h2 hg.size (hg.block p h2.lt (by simp; omega)) fun b h6 h7 => hg.block b h7 (by simp; omega), h3.trans (below_of_grown hg h3.size h0), h4, Nat.le_trans h5 hg.size⟩
theorem RQD.len (h : RQD w r lo ds) : ∃ A c, w.cell? ⟨r, 0, none⟩ = some (.slice A ds.length c) ∧ w.frozen? ⟨r, 0, none⟩ = false ∧ ds.length ≤ c := by
  obtain ⟨ks, rfl, h⟩ := h
  obtain ⟨A, c, h1, _, h3⟩ := h.row
  rw [List.length_map]
  exact ⟨A, c, h1, h.fz, h3⟩
theorem RQD.lt (h : RQD w r lo ds) : r < w.heap.size := by obtain ⟨ks, _, h⟩ := h; exact h.lt
/-- Its first item, and where its row lies. -/
theorem RQD.first {d : Int × List Nat} (h : RQD w r lo (d :: ds)) : ∃ (b off c : Nat) (A : Option Addr) (m c' : Nat), w.cell? ⟨r, 0, none⟩ = some (.slice (some ⟨b, off, none⟩) (ds.length + 1) c) ∧ w.frozen? ⟨r, 0, none⟩ = false ∧ ds.length + 1 ≤ c ∧ lo ≤ b ∧ b < w.heap.size ∧
    w.cell? ⟨b, off, none⟩ = some (.int .i64 d.1) ∧ w.cell? ⟨b, off + 1, none⟩ = some (.slice A m c') ∧ Rd w w.heap.size A m (bv d.2) ∧ (∀ x ∈ d.2, x < 256) ∧
    ∀ A' c', (A' = if c = 1 then some ⟨b, off, none⟩ else some ⟨b, off + 2, none⟩) → c' = c - 1 → RQD (w.setCell ⟨r, 0, none⟩ (.slice A' ds.length c')) r lo ds := by
  obtain ⟨ks, e, h⟩ := h
  cases ks with
  | nil => simp at e
  | cons q ks =>
    simp only [List.map_cons, List.cons.injEq] at e
    obtain ⟨rfl, rfl⟩ := e
    obtain ⟨A, c, h1, h2, h3⟩ := h.row
    have hl : (q :: ks).length = ks.length + 1 := rfl
    rw [hl] at h1 h2 h3
    obtain ⟨b, off, rfl, h4, h5, h6⟩ := h2.2 (by omega)
    obtain ⟨hi, hn⟩ := h.items q (List.mem_cons_self ..)
    rw [List.length_map]
    have hrl := h.rlo
    refine ⟨b, off, c, q.A, q.n, q.c, h1, h.fz, h3, h4, h5, h6 0 _ rfl, h6 1 _ rfl, hi.at'.rd, hi.lt, fun A' c' hA hc => ?_⟩
    have hg := grown_set (a := w) (grown_refl w r) 0 (.slice A' ks.length c')
    refine ⟨ks, rfl, ⟨A', c', World.cell?_setCell_same _ _ _ h1, ⟨its_len ks, fun h0 => ?_⟩, by omega⟩, by rw [World.frozen?_setCell]; exact h.fz, hrl, Nat.lt_of_lt_of_le h.lt hg.size, Nat.le_trans h.lo' hg.size, by have := h.le; rw [hl] at this; omega, fun x hx => ⟨(h.items x (List.mem_cons_of_mem _ hx)).1.grown hg hrl, (h.items x (List.mem_cons_of_mem _ hx)).2⟩⟩
    rw [if_neg (by omega)] at hA
    refine ⟨b, off + 2, hA, h4, Nat.lt_of_lt_of_le h5 hg.size, fun j u hu => ?_⟩
    rw [World.cell?_setCell_other _ _ _ _ (by simp <;> omega), Nat.add_assoc]
    refine h6 (2 + j) u ?_
    show (itC q ++ its ks)[2 + j]? = _
    rw [List.getElem?_append_right (by show 2 ≤ _; omega)]
    show (its ks)[2 + j - 2]? = _
    rw [show 2 + j - 2 = j by omega]
    exact hu
end
/-- An item whose bytes are a row of their own. -/
theorem itb_own {w : World} {lo n c : Nat} {A : Option Addr} {bs : List Nat} (ho : w.ownsRow lo 5 1 (.slice A n c) n (bv bs)) (hlt : ∀ x ∈ bs, x < 256) (hc : n ≤ c) (k : Int) : ItB w lo ⟨k, A, n, c, bs⟩ := by
  have ha := At.of_own ho
  rw [Nat.mul_one] at ha
  refine ⟨⟨ha, hc, hlt⟩, fun h0 b off e => ?_⟩
  rcases ho.2 with ⟨_, h2⟩ | ⟨g, cap, cur, hv, _, hh, _⟩
  · simp only at h0; omega
  · simp only [Value.slice.injEq] at hv
    simp only at e
    rw [hv.1] at e
    cases e
    exact ⟨cur, (0, 0), hh⟩
theorem ItB.apart {w w' : World} {lo base e s n : Nat} {v : Value} {q : It} {xs : List Value} (h : ItB w lo q) (ho : w.ownsRow base e s v n xs) (hne : e ≠ 5) (hg : w.grownBy w' v.ownBlock) : ItB w' lo q := by
  refine h.keep hg.size fun b _ h2 hB => hg.block b h2 fun e' => ?_
  rcases ho.2 with ⟨rfl, _⟩ | ⟨g, cap, cur, rfl, _, hh, _⟩
  · simp [Value.ownBlock] at e'
  · simp [Value.ownBlock] at e'
    subst e'
    obtain ⟨cur', fr, hh'⟩ := hB
    rw [hh] at hh'
    simp at hh'
    exact hne hh'.2.1
/-- Both rows on their way: the same items. -/
def TwoI (w1 wr : World) (lo : Nat) (va vb : Value) (k : Nat) : Prop := ∃ qs, RowQ wr lo va k qs ∧ wr.ownsRow lo 44 2 vb k (its qs) ∧ (∀ q ∈ qs, q.n ≤ 1000000) ∧ Below w1.heap.size w1 wr
theorem TwoI.nil (w1 : World) (lo : Nat) : TwoI w1 w1 lo (.slice none 0 0) (.slice none 0 0) 0 := ⟨[], RowQ.nil _ _, own_nil _ _ _ _, fun _ h => (by cases h), Below.refl _ _⟩
/-- The notes on their way. -/
def NotI (w1 wr : World) (lo : Nat) (v : Value) (k : Nat) : Prop := ∃ l : List Int, l.length = k ∧ wr.ownsRow lo 3 1 v k (ints l) ∧ Below w1.heap.size w1 wr
/-- Both queues, between two calls. -/
def TellQ (w wr : World) (p : Nat) (ds : List (Int × List Nat)) : Prop := LQ w wr p (p + 2) ds ∧ RQD wr (p + 1) (p + 2) ds
theorem TellQ.below {w wr w' : World} {p : Nat} {ds : List (Int × List Nat)} (h : TellQ w wr p ds) (hb : Below wr.heap.size wr w') : TellQ w w' p ds := ⟨h.1.below hb, h.2.below hb⟩
theorem TellQ.new (w : World) : TellQ w ((w.alloc (.cells zeroQ 27)).alloc (.cells #[.slice none 0 0] 39)) w.heap.size [] := by
  have h := (new_lq (Below.refl w.heap.size w)).alloc (.cells #[.slice none 0 0] 39)
  refine ⟨h.raise (by omega) (by simp), [], rfl, ⟨none, 0, ?_, ⟨rfl, fun h => absurd h (by simp)⟩, Nat.le_refl _⟩, ?_, by omega, by simp, by simp, Nat.zero_le _, fun q hq => by cases hq⟩
  · simp
  · simp
/-- The string of an item's bytes. -/
theorem conv_it {w : World} {A : Option Addr} {n c : Nat} {bs : List Nat} (h : Rd w w.heap.size A n (bv bs)) : (convert 22 9 (.slice A n c)).run Try.prog w = .ok (.string (strOf bs)) w :=
  conv_run w 22 9 5 Try.underlying22 Try.underlying5 Try.underlying9 _ _ _ _ _ h
end Go.Proofs.Ytlaopkkfgkcejaa.Qu
