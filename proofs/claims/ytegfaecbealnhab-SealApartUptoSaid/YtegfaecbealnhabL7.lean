/- One byte that is another one. Conditions: as each theorem lists them. -/
import Derived.Test.YtegfaecbealnhabL6
namespace Go.Proofs.Ytegfaecbealnhab
open Go Go.RowKit

theorem xor_ne {a b : Nat} (hb : b ≠ 0) : a ≠ a ^^^ b := fun e => hb (by
  have : a ^^^ 0 = a ^^^ b := by rw [Nat.xor_zero]; exact e
  exact (xor_c this).symm)

theorem openB_head (key : Nat) (num : Int) (head body : List Nat) (k x : Nat) (hh : ∀ c ∈ head, c < 256) (hb : ∀ c ∈ body, c < 256) (nh : head.length < 2 ^ 63) (nb : body.length < 2 ^ 63) (hk : k < head.length) (hx : x < 256) (hne : head.getD k 0 ≠ x) :
    openB key num (head.set k x) (closeF key num head body) = false := by
  have hl := closeF_len key num head body
  have hs := stpN_lt key (unN num)
  unfold openB
  rw [hl, Nat.add_sub_cancel]
  unfold closeF
  generalize stpN key (unN num) = s at hs ⊢
  have hm := maskN_lt s body hb
  have hml := maskN_len s body
  generalize maskN s body = m at hm hml ⊢
  rw [← hml, List.take_left, List.drop_left, readN_eight _ (tagN_lt _ _ hs)]
  rw [decide_eq_false]
  rintro ⟨_, e⟩
  rw [tagN_pair, tagN_pair] at e
  have := partN_h m hm (by rw [hml]; exact nb) (partN_lt _ _) (partN_lt _ _) e
  exact hne (partN_one head s k x nh hh hs hx hk this.symm)

theorem openB_sealed (key : Nat) (num : Int) (head body : List Nat) (k x : Nat) (hb : ∀ c ∈ body, c < 256) (nb : body.length < 2 ^ 63) (hk : k < body.length + 8) (hx : x < 256) (hne : (closeF key num head body).getD k 0 ≠ x) :
    openB key num head ((closeF key num head body).set k x) = false := by
  have hl := closeF_len key num head body
  have hs := stpN_lt key (unN num)
  unfold openB
  rw [List.length_set, hl, Nat.add_sub_cancel]
  unfold closeF at hne ⊢
  generalize stpN key (unN num) = s at hs hne ⊢
  have hm := maskN_lt s body hb
  have hml := maskN_len s body
  generalize maskN s body = m at hm hml hne ⊢
  have ht := tagN_lt [head, m] s hs
  rw [decide_eq_false]
  rintro ⟨_, e⟩
  rw [← hml] at e hk nb
  rcases Nat.lt_or_ge k m.length with h1 | h1
  · rw [List.set_append_left _ _ h1] at e
    have e1 : (m.set k x ++ eightN (tagN s [head, m])).drop m.length = eightN (tagN s [head, m]) := by
      rw [show m.length = (m.set k x).length by rw [List.length_set], List.drop_left]
    have e2 : (m.set k x ++ eightN (tagN s [head, m])).take m.length = m.set k x := by
      conv => lhs; rw [show m.length = (m.set k x).length by rw [List.length_set]]
      rw [List.take_left]
    rw [e1, e2, readN_eight _ ht, tagN_pair, tagN_pair] at e
    have := partN_one m (partN s head) k x nb hm (partN_lt _ _) hx h1 e.symm
    apply hne
    rw [List.getD_eq_getElem?_getD, List.getElem?_append_left h1, ← List.getD_eq_getElem?_getD]
    exact this
  · rw [List.set_append_right _ _ h1, List.drop_left, List.take_left] at e
    have e8 : (eightN (tagN s [head, m])).length = 8 := rfl
    have hk8 : k - m.length < 8 := by omega
    have hr := readN_eight _ ht
    have := read_inj ((eightN (tagN s [head, m])).set (k - m.length) x) (eightN (tagN s [head, m])) (by rw [List.length_set, e8]) e8 (fun c hc => by
      rcases List.mem_or_eq_of_mem_set hc with h | h
      · exact eightN_lt _ c h
      · rw [h]; exact hx) (eightN_lt _) (by rw [hr]; exact e)
    apply hne
    rw [List.getD_eq_getElem?_getD, List.getElem?_append_right h1, ← List.getD_eq_getElem?_getD, ← this]
    simp [List.getD, e8, hk8]
end Go.Proofs.Ytegfaecbealnhab
