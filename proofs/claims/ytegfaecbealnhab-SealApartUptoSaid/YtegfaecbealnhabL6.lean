/- What leaves comes in: Open of what Close laid. Conditions: as each theorem lists them. -/
import Derived.Test.YtegfaecbealnhabP1
namespace Go.Proofs.Ytegfaecbealnhab
open Go Go.RowKit
open PartsLaw (tagN_cons tagN_nil)

theorem tagN_pair (h : Nat) (a b : List Nat) : tagN h [a, b] = partN (partN h a) b := by rw [tagN_cons, tagN_cons, tagN_nil]
theorem tagN_h {g h : Nat} {a b : List Nat} (hg : g < 2 ^ 64) (hh : h < 2 ^ 64) (ha : ∀ c ∈ a, c < 256) (hb : ∀ c ∈ b, c < 256) (na : a.length < 2 ^ 63) (nb : b.length < 2 ^ 63) (e : tagN g [a, b] = tagN h [a, b]) : g = h := by
  rw [tagN_pair, tagN_pair] at e
  exact partN_h a ha na hg hh (partN_h b hb nb (partN_lt _ _) (partN_lt _ _) e)

theorem mask_part (key : Nat) (num : Int) (l : List Nat) (B : Nat) (v : Value) (w : World) (hk : key < 2 ^ 64) (h : IsPart w B v l) (hB : B ≤ w.heap.size) :
    Calls Try.prog 42 #[.int .u64 (key : Int), .int .i64 num, v] w fun e w' => ∃ v', e = .returned v' ∧ w'.ownsRow w.heap.size 5 1 v' l.length (bv (maskN (stpN key (unN num)) l)) ∧ Below w.heap.size w w' := by
  obtain ⟨A, c, rfl, h1, h2, h3, h4⟩ := h
  exact mask_any key num l B A c w hk h1 hB h4 h2 h3

theorem openB_close (key key' : Nat) (num num' : Int) (head body : List Nat) (hh : ∀ c ∈ head, c < 256) (hb : ∀ c ∈ body, c < 256) (nh : head.length < 2 ^ 63) (nb : body.length < 2 ^ 63) :
    openB key' num' head (closeF key num head body) = decide (stpN key' (unN num') = stpN key (unN num)) := by
  have hl := closeF_len key num head body
  have hs := stpN_lt key (unN num)
  have hs' := stpN_lt key' (unN num')
  unfold openB
  rw [hl, Nat.add_sub_cancel]
  unfold closeF
  generalize stpN key (unN num) = s at hs ⊢
  generalize stpN key' (unN num') = s' at hs' ⊢
  have hm := maskN_lt s body hb
  have hml := maskN_len s body
  generalize maskN s body = m at hm hml ⊢
  rw [← hml, List.take_left, List.drop_left, readN_eight _ (tagN_lt _ _ hs)]
  by_cases e : s' = s
  · subst e
    rw [decide_eq_true rfl, decide_eq_true ⟨by omega, rfl⟩]
  · rw [decide_eq_false e, decide_eq_false]
    rintro ⟨_, e2⟩
    exact e (tagN_h hs hs' hh hm nh (by rw [hml]; exact nb) e2).symm

theorem open_close (key key' : Nat) (num num' : Int) (head body : List Nat) (vh vx : Value) (B : Nat) (w : World) (hk : key' < 2 ^ 64) (hb : ∀ c ∈ body, c < 256) (hh : IsPart w B vh head) (hx : IsPart w B vx (closeF key num head body)) (hB : B ≤ w.heap.size) :
    Calls Try.prog 38 #[.int .u64 (key' : Int), .int .i64 num', vh, vx] w fun e w' => ∃ v', e = .returned (.tuple #[v', .bool (decide (stpN key' (unN num') = stpN key (unN num)))]) ∧ (stpN key' (unN num') = stpN key (unN num) → w'.ownsRow w.heap.size 5 1 v' body.length (bv body)) ∧ Below w.heap.size w w' := by
  have O := open_long key' num' head (closeF key num head body) vh vx B w hk hh hx hB body.length (closeF_len _ _ _ _)
  obtain ⟨Ah, ch, rfl, _, _, nh, hhb⟩ := hh
  obtain ⟨Ax, cx, rfl, _, _, nx, hxb⟩ := hx
  rw [closeF_len] at nx
  rw [openB_close key key' num num' head body hhb hb (by omega) (by omega)] at O
  refine O.mono ?_
  rintro e w' ⟨v', rfl, h1, h2, h3⟩
  refine ⟨v', rfl, fun he => ?_, h3⟩
  have := h1 (decide_eq_true he)
  rw [he] at this
  have e2 : (closeF key num head body).take body.length = maskN (stpN key (unN num)) body := by
    unfold closeF
    have := maskN_len (stpN key (unN num)) body
    rw [← this, List.take_left]
  rw [e2, mask_twice] at this
  exact this
end Go.Proofs.Ytegfaecbealnhab
