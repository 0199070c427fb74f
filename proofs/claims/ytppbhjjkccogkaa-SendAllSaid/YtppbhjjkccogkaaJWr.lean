/- A finished stream whose frames are settled at once. Conditions: as each theorem lists them. -/
import Derived.Test.YtppbhjjkccogkaaJWl
set_option linter.unusedSimpArgs false
set_option linter.unusedVariables false

namespace Go.Proofs.Ytppbhjjkccogkaa.Se
open Go Go.RowKit Go.Proofs.Ytppbhjjkccogkaa Go.Proofs.Ytppbhjjkccogkaa.Sp Go.Proofs.Ytppbhjjkccogkaa.Sp.Ref

/-- What SendAll holds at each turn: f: the Fin came. -/
structure AllP (out : List Nat) (i : Int) (f : Bool) (s : St) : Prop where
  pr : Pr s
  rs : s.rs = false
  fd : s.fd = true
  id : s.id = 6
  l : s.l = 400
  bs : s.bs = out
  len : out.length ≤ 360
  fin : (f = false ∧ (s.fin = 0 ∨ s.fin = 2)) ∨ (f = true ∧ s.fin = 3)
  left : phi s + (if s.fin = 3 then 0 else 50) + 50 * i ≤ 3000 + 100 * min i 60

section
variable {out : List Nat} {i : Int} {f : Bool} {s : St} {room a fresh : Int} {n : Nat} {fin : Bool}
theorem AllP.endS (h : AllP out i f s) : endS s = (out.length : Int) := by unfold Se.endS; rw [if_neg (by rw [h.rs]; decide), h.bs]
theorem AllP.lt (h : AllP out i f s) : i < 400 := by
  have h1 := phi_pos h.pr.ok
  have h2 := h.left
  split at h2 <;> omega
theorem AllP.skip (h : AllP out i f s) (h60 : i < 60) : AllP out (i + 1) f s :=
  ⟨h.pr, h.rs, h.fd, h.id, h.l, h.bs, h.len, h.fin, by have h2 := h.left; split at h2 <;> omega⟩
theorem AllP.news (h : AllP out i f s) (hi : NextI s room 500 a n fin fresh) : newsS (putS s a n fin fresh) (fkOf s a n fin) = if fin = true then 1 else 0 := by
  unfold newsS
  rw [if_neg (by show ¬ (s.id ≠ s.id); simp)]
  cases hf : fin
  · rw [if_neg (by show ¬ (_ ∧ false = true ∧ _); simp), if_neg (by show ¬ ((3 : Int) = 4 ∧ _); simp)]; rfl
  · have he := hi.ef
    rw [hf] at he
    unfold finS at he
    simp at he
    rw [if_pos ⟨rfl, rfl, he.2⟩]
    rfl
theorem AllP.lose (h : AllP out i f s) (hi : NextI s room 500 a n fin fresh) (h60 : i < 60) : AllP out (i + 1) f (lostS (putS s a n fin fresh) (fkOf s a n fin)) := by
  have hn := h.news hi
  have hfn : (lostS (putS s a n fin fresh) (fkOf s a n fin)).fin = (if newsS (putS s a n fin fresh) (fkOf s a n fin) = 1 then loseN (if fin = true then tellN s.fin else s.fin) else (if fin = true then tellN s.fin else s.fin)) := rfl
  have key : ((lostS (putS s a n fin fresh) (fkOf s a n fin)).fin = 3 ↔ s.fin = 3) ∧ ((f = false ∧ ((lostS (putS s a n fin fresh) (fkOf s a n fin)).fin = 0 ∨ (lostS (putS s a n fin fresh) (fkOf s a n fin)).fin = 2)) ∨ (f = true ∧ (lostS (putS s a n fin fresh) (fkOf s a n fin)).fin = 3)) := by
    rw [hfn, hn]
    cases fin
    · simp only [Bool.false_eq_true, if_false, show ¬ (0 : Nat) = 1 by decide]
      first | exact ⟨Iff.rfl, h.fin⟩ | exact ⟨trivial, h.fin⟩
    · simp only [if_true]
      rcases h.fin with ⟨h1, h2 | h2⟩ | ⟨h1, h2⟩ <;> rw [h2] <;> simp [tellN, loseN, h1]
  refine ⟨h.pr.lose hi, h.rs, h.fd, h.id, h.l, h.bs, h.len, key.2, ?_⟩
  have := phi_lose h.pr hi
  have hl := h.left
  have hk := key.1
  split at hl <;> split <;> omega
theorem AllP.ack (h : AllP out i f s) (hi : NextI s room 500 a n fin fresh) (h60 : i < 60 ∨ room = 60) : AllP out (i + 1) (f || fin) (ackS (putS s a n fin fresh) (fkOf s a n fin)) := by
  have hn := h.news hi
  have hfn : (ackS (putS s a n fin fresh) (fkOf s a n fin)).fin = (if newsS (putS s a n fin fresh) (fkOf s a n fin) = 1 then comeN (if fin = true then tellN s.fin else s.fin) else (if fin = true then tellN s.fin else s.fin)) := rfl
  have key : ((ackS (putS s a n fin fresh) (fkOf s a n fin)).fin = 3 ↔ (s.fin = 3 ∨ fin = true)) ∧ (((f || fin) = false ∧ ((ackS (putS s a n fin fresh) (fkOf s a n fin)).fin = 0 ∨ (ackS (putS s a n fin fresh) (fkOf s a n fin)).fin = 2)) ∨ ((f || fin) = true ∧ (ackS (putS s a n fin fresh) (fkOf s a n fin)).fin = 3)) := by
    rw [hfn, hn]
    cases fin
    · simp only [Bool.false_eq_true, if_false, show ¬ (0 : Nat) = 1 by decide, or_false, Bool.or_false]
      first | exact ⟨Iff.rfl, h.fin⟩ | exact ⟨trivial, h.fin⟩
    · simp only [if_true]
      rcases h.fin with ⟨h1, h2 | h2⟩ | ⟨h1, h2⟩ <;> rw [h2] <;> simp [tellN, comeN]
  refine ⟨h.pr.ack hi, h.rs, h.fd, h.id, h.l, h.bs, h.len, key.2, ?_⟩
  have hE := h.endS
  have hf := hi.facts h.pr.ok
  have hou := h.pr.ok.u
  have hbs : (s.bs.length : Int) = (out.length : Int) := by rw [h.bs]
  have hln := h.len
  have hp := phi_ack h.pr hi (by rw [hE]; omega)
  have hl := h.left
  have hk := key.1
  by_cases h6 : i < 60
  · have := hp.1
    split at hl <;> split <;> omega
  · have hr : room = 60 := by omega
    have hb := bare_le (s := s) a ⟨hf.1, by omega⟩ (by rw [h.id]; decide)
    rcases Nat.eq_zero_or_pos n with h0 | h0
    · have hfd : fin = true ∧ dueN s.fin = true := by
        have := hi.some'
        rw [h0] at this
        simpa using this
      have hd : s.fin = 0 ∨ s.fin = 2 := of_decide_eq_true hfd.2
      have := hp.1
      rw [if_neg (by omega)] at hl
      rw [if_pos (hk.2 (.inr hfd.1))]
      omega
    · have := hp.2 h0 (hi.full h.pr.ok (by omega))
      split at hl <;> split <;> omega
theorem AllP.stuck (h : AllP out i f s) (hd : doneS s = false) (hr : 60 ≤ room) (hn : nextS s room 500 = none) : False := by
  have hok := h.pr.ok
  have hou := hok.u
  have hE := h.endS
  have hbs : (s.bs.length : Int) = (out.length : Int) := by rw [h.bs]
  have hln := h.len
  have hl := h.l
  have hdu := dueS_in hok 500
  have hb := bare_le (s := s) (dueS s 500).1 ⟨hdu.1, by omega⟩ (by rw [h.id]; decide)
  obtain ⟨h1, h5⟩ := next_none hok (by omega) hn
  obtain ⟨h2, h3, h4⟩ := h.pr.stuck h1 (by rw [hE]; omega)
  rw [hE] at h3 h4
  have hu : s.u = (out.length : Int) := by omega
  have hall : allF s.came 0 (s.bs.length : Int) = true := allF_of hok.came (by omega) (by omega) fun x g0 g1 => h4 x g0 (by omega) (by omega)
  have hdu1 : (dueS s 500).1 = s.u := by rw [due_miss h2]
  have hfin : finS s (dueS s 500).1 0 = true := by
    unfold finS
    rw [h.fd, h.rs, hdu1, decide_eq_true (by omega)]
    rfl
  have h6 : s.fin = 3 := by
    have : ¬ dueN s.fin = true := fun hx => h5 ⟨hfin, hx⟩
    have h7 : ¬ (s.fin = 0 ∨ s.fin = 2) := fun hx => this (decide_eq_true hx)
    rcases h.fin with ⟨_, hx⟩ | ⟨_, hx⟩
    · exact absurd hx h7
    · exact hx
  have : doneS s = true := by unfold doneS; rw [h.fd, h6, hall]; simp
  rw [hd] at this; cases this
theorem AllP.end' (h : AllP out i f s) (hd : doneS s = true) : f = true ∧ allF s.came 0 (out.length : Int) = true := by
  unfold doneS at hd
  rw [h.fd, h.rs, h.bs] at hd
  simp at hd
  rcases h.fin with ⟨_, hx⟩ | ⟨hx, _⟩
  · rcases hx with hx | hx <;> rw [hx] at hd <;> simp at hd
  · exact ⟨hx, hd.2⟩
theorem wid_up {x y : Int} (h0 : 0 ≤ x) (h1 : x ≤ y) (h2 : y ≤ 4611686018427387903) : (wid x : Int) ≤ (wid y : Int) := by
  have := wid_mono (x := x) (y := y) (wid_in h0 (by omega)) (wid_in (by omega) h2) h1
  omega
theorem NextI.size (hs : StOk s) (hi : NextI s room 500 a n fin fresh) : 2 + (wid s.id : Int) + (wid a : Int) + (wid (n : Int) : Int) + n ≤ room := by
  have hd := dueS_in hs 500
  have he := hi.en
  have hr := hi.room'
  have hf := fitS_in ((dueS s 500).2 - (dueS s 500).1) room (bareS s a) (by omega) hr
  rw [← he] at hf
  unfold fitS at he
  obtain ⟨m, hm⟩ : ∃ m, min (min ((dueS s 500).2 - (dueS s 500).1) 120) (room - bareS s a) = m := ⟨_, rfl⟩
  rw [hm] at he
  have hw := wid_up (x := (n : Int)) (y := m) (by omega) (by omega) (by omega)
  unfold bareS at he hr hf
  omega
theorem AllP.facts (h : AllP out i f s) (hi : NextI s room 500 a n fin fresh) : 0 ≤ a ∧ a + n ≤ (out.length : Int) ∧ n ≤ 120 ∧ (fin = true → a + n = (out.length : Int)) := by
  have hf := hi.facts h.pr.ok
  have hbs : (s.bs.length : Int) = (out.length : Int) := by rw [h.bs]
  refine ⟨hf.1, by omega, by omega, fun hx => ?_⟩
  have he := hi.ef
  rw [hx] at he
  unfold finS at he
  simp at he
  omega
end
end Go.Proofs.Ytppbhjjkccogkaa.Se
