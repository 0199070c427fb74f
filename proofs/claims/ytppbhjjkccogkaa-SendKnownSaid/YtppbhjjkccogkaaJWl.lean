/- A reset stream whose frames are settled at once; Next told in one form. Conditions: as each theorem lists them. -/
import Derived.Test.YtppbhjjkccogkaaJWk
import Derived.Test.YtppbhjjkccogkaaJWi
set_option linter.unusedSimpArgs false
set_option linter.unusedVariables false

namespace Go.Proofs.Ytppbhjjkccogkaa.Se
open Go Go.RowKit Go.Proofs.Ytppbhjjkccogkaa Go.Proofs.Ytppbhjjkccogkaa.Sp Go.Proofs.Ytppbhjjkccogkaa.Sp.Ref

/-- Next in one form: ok tells which. -/
def Next1 (s : St) (room most : Int) (w : World) (p : Nat) (F : List Nat) (e : Ending) (w' : World) : Prop :=
  ∃ (k id : Int) (a : Nat) (n : Nat) (fin ok : Bool) (fresh : Int) (A : Option Addr) (c : Nat) (F' : List Nat) (a3 a4 a5 : Value) (s' : St),
    e = .returned (.tuple #[.agg #[.int .i64 k, .int .i64 id, .int .i64 (a : Int), .int .i64 0, .int .i64 0, .int .i64 0, .bool fin, .slice A n c, .slice none 0 0], .int .i64 fresh, .bool ok]) ∧
    StIn w' p F' a3 a4 a5 s' ∧ Kept F w w' ∧ (∀ k ∈ F', k ∈ F ∨ w.heap.size ≤ k) ∧
    (ok = false → nextS s room most = none ∧ s' = s) ∧ (ok = true → NextI s room most a n fin fresh ∧ s' = putS s a n fin fresh ∧ k = 3 ∧ id = s.id ∧ w'.ownsRow w.heap.size 5 1 (.slice A n c) n (bv ((s.bs.drop a).take n)) ∧ ∀ k ∈ fp (.slice A n c), k ∉ F')
theorem next_one {s : St} {room most : Int} {w : World} {p : Nat} {F : List Nat} {e : Ending} {w' : World} (h : NextP s room most w p F e w') : Next1 s room most w p F e w' := by
  rcases h with ⟨h1, rfl, F', a3, a4, a5, h2, h3, h4⟩ | ⟨a, n, fin, fresh, A, c, F', a3, a4, a5, h1, rfl, h2, h3, h4, h5, h6⟩
  · exact ⟨0, 0, 0, 0, false, false, 0, none, 0, F', a3, a4, a5, s, rfl, h2, h3, h4, fun _ => ⟨h1, rfl⟩, fun h => by cases h⟩
  · exact ⟨3, s.id, a, n, fin, true, fresh, A, c, F', a3, a4, a5, _, rfl, h2, h3, h4, (fun h => by cases h), fun _ => ⟨h1, rfl, rfl, rfl, h5, h6⟩⟩

def brS (s : St) (b : Int) : St := ⟨s.l, s.u, s.id, s.bs, s.lost, s.came, s.fd, s.fin, s.rs, s.code, s.sure, b⟩
theorem gaps_same (es : List Int) (f : Int) : gapsF es f f = [] := by unfold gapsF; rw [if_pos (Int.le_refl _)]
theorem turn_due {s s' : St} (h : turnS s = some s') : s' = brS s 1 ∧ (s.br = 0 ∨ s.br = 2) ∧ s.sure ≤ s.u := by
  unfold turnS at h
  split at h
  · cases h
  · rename_i hx
    cases h
    have hd : dueN s.br = true := by cases hr : dueN s.br; exact absurd (.inr (.inr hr)) hx; rfl
    have h2 : s.br = 0 ∨ s.br = 2 := of_decide_eq_true hd
    exact ⟨by unfold brS tellN; rw [if_pos h2], h2, by have : ¬ s.u < s.sure := fun h => hx (.inr (.inl h)); omega⟩
theorem turn_lose (s : St) : lostS (brS s 1) ⟨4, s.id, s.u, s.sure, false, 0⟩ = brS s 2 := by
  have e1 : bytesS (brS s 1) ⟨4, s.id, s.u, s.sure, false, 0⟩ = (0, 0) := by unfold bytesS; rw [if_pos (.inl (by show ¬ (4 : Int) = 3; decide))]
  have e2 : newsS (brS s 1) ⟨4, s.id, s.u, s.sure, false, 0⟩ = 2 := by
    unfold newsS
    rw [if_neg (by show ¬ (s.id ≠ s.id); simp), if_neg (by show ¬ ((4 : Int) = 3 ∧ _); simp), if_pos ⟨rfl, rfl⟩]
  unfold lostS
  rw [e1, e2, gaps_same]
  rfl
theorem turn_ack (s : St) : ackS (brS s 1) ⟨4, s.id, s.u, s.sure, false, 0⟩ = brS s 3 := by
  have e1 : bytesS (brS s 1) ⟨4, s.id, s.u, s.sure, false, 0⟩ = (0, 0) := by unfold bytesS; rw [if_pos (.inl (by show ¬ (4 : Int) = 3; decide))]
  have e2 : newsS (brS s 1) ⟨4, s.id, s.u, s.sure, false, 0⟩ = 2 := by
    unfold newsS
    rw [if_neg (by show ¬ (s.id ≠ s.id); simp), if_neg (by show ¬ ((4 : Int) = 3 ∧ _); simp), if_pos ⟨rfl, rfl⟩]
  unfold ackS
  rw [e1, e2, turn_same, turn_same]
  rfl
theorem Pr.br {s : St} (h : Pr s) (b : Int) (hb : 0 ≤ b ∧ b ≤ 3) : Pr (brS s b) :=
  ⟨⟨h.ok.id, h.ok.l, h.ok.u, h.ok.n, h.ok.by', h.ok.lost, h.ok.lostU, h.ok.came, h.ok.cameU, h.ok.fin, hb, h.ok.sure, h.ok.code⟩, h.dis, h.cov⟩

/-- What SendSure holds at each turn. -/
structure SureP (E top : Int) (i : Int) (told : Bool) (s : St) : Prop where
  pr : Pr s
  rs : s.rs = true
  fd : s.fd = false
  id : s.id = 2
  code : s.code = 5
  sure : s.sure = E
  len : s.bs.length ≤ 499
  told : (told = false ∧ s.br = 0) ∨ (told = true ∧ (s.br = 2 ∨ s.br = 3) ∧ E ≤ s.u)
  top : top ≤ s.u ∧ s.u ≤ max top E
  left : phi s + (if s.br = 3 then 0 else 50) + 50 * i ≤ 3000 + 100 * min i 60

section
variable {E top i : Int} {told : Bool} {s : St}
theorem SureP.endS (h : SureP E top i told s) : endS s = E := by unfold Se.endS; rw [if_pos h.rs, h.sure]
theorem SureP.lt (h : SureP E top i told s) : i < 200 := by
  have h1 := phi_pos h.pr.ok
  have h2 := h.left
  split at h2 <;> omega
theorem SureP.turned {s' : St} (h : SureP E top i told s) (ht : turnS s = some s') (b : Int) (hb : b = 2 ∧ i < 60 ∨ b = 3) : SureP E top (i + 1) true (brS s b) := by
  obtain ⟨_, h2, h3⟩ := turn_due ht
  have hu := h.sure
  refine ⟨h.pr.br b (by omega), h.rs, h.fd, h.id, h.code, h.sure, h.len, .inr ⟨rfl, by show b = 2 ∨ b = 3; omega, by show E ≤ s.u; omega⟩, h.top, ?_⟩
  have hl := h.left
  rw [if_neg (by omega)] at hl
  show phi s + (if b = 3 then 0 else 50) + 50 * (i + 1) ≤ 3000 + 100 * min (i + 1) 60
  split <;> omega
theorem SureP.news (h : SureP E top i told s) (a : Int) (n : Nat) : True := trivial
theorem SureP.lose {a fresh : Int} {n : Nat} {fin : Bool} (h : SureP E top i told s) (hi : NextI s 150 500 a n fin fresh) (h60 : i < 60) : SureP E top (i + 1) told (lostS (putS s a n fin fresh) (fkOf s a n fin)) := by
  have hf := hi.facts h.pr.ok
  have hfin : fin = false := by rw [hi.ef]; unfold finS; rw [h.fd]; rfl
  have hne : newsS (putS s a n fin fresh) (fkOf s a n fin) = 0 := by
    subst hfin
    unfold newsS
    rw [if_neg (by show ¬ (s.id ≠ s.id); simp), if_neg (by show ¬ (_ ∧ false = true ∧ _); simp), if_neg (by show ¬ ((3 : Int) = 4 ∧ _); simp)]
  have hbr : (lostS (putS s a n fin fresh) (fkOf s a n fin)).br = s.br := by
    show (if newsS _ _ = 2 then loseN s.br else s.br) = s.br
    rw [hne]; rfl
  have hu : (lostS (putS s a n fin fresh) (fkOf s a n fin)).u = max s.u (a + n) := hf.2.2.2.2.2.2.2.1
  have hE := h.endS
  have haE : a + n ≤ max s.u E := by
    rcases hi.where' h.pr.ok with ⟨_, _, _, _, k3, k4, _⟩ | ⟨_, k1, k2, _⟩
    · omega
    · rcases Nat.eq_zero_or_pos n with h0 | h0
      · omega
      · have := (k2 h0).1; omega
  refine ⟨h.pr.lose hi, h.rs, h.fd, h.id, h.code, h.sure, h.len, ?_, ?_, ?_⟩
  · rw [hbr, hu]
    rcases h.told with ⟨h1, h2⟩ | ⟨h1, h2, h3⟩
    · exact .inl ⟨h1, h2⟩
    · exact .inr ⟨h1, h2, by omega⟩
  · rw [hu]; have := h.top; omega
  · rw [hbr]
    have := phi_lose h.pr hi
    have hl := h.left
    split at hl <;> omega
theorem SureP.ack {a fresh : Int} {n : Nat} {fin : Bool} (h : SureP E top i told s) (hi : NextI s 150 500 a n fin fresh) : SureP E top (i + 1) told (ackS (putS s a n fin fresh) (fkOf s a n fin)) := by
  have hf := hi.facts h.pr.ok
  have hfin : fin = false := by rw [hi.ef]; unfold finS; rw [h.fd]; rfl
  have hne : newsS (putS s a n fin fresh) (fkOf s a n fin) = 0 := by
    subst hfin
    unfold newsS
    rw [if_neg (by show ¬ (s.id ≠ s.id); simp), if_neg (by show ¬ (_ ∧ false = true ∧ _); simp), if_neg (by show ¬ ((3 : Int) = 4 ∧ _); simp)]
  have hbr : (ackS (putS s a n fin fresh) (fkOf s a n fin)).br = s.br := by
    show (if newsS _ _ = 2 then comeN s.br else s.br) = s.br
    rw [hne]; rfl
  have hu : (ackS (putS s a n fin fresh) (fkOf s a n fin)).u = max s.u (a + n) := hf.2.2.2.2.2.2.2.1
  have hE := h.endS
  have hn0 : 0 < n := by
    rcases Nat.eq_zero_or_pos n with h0 | h0
    · exact absurd ⟨by rw [h0]; rfl, by rw [hfin]; simp⟩ hi.some'
    · exact h0
  have haE : a + n ≤ max s.u E := by
    rcases hi.where' h.pr.ok with ⟨_, _, _, _, k3, k4, _⟩ | ⟨_, k1, k2, _⟩
    · omega
    · have := (k2 hn0).1; omega
  have hou := h.pr.ok.u
  have hln := h.len
  refine ⟨h.pr.ack hi, h.rs, h.fd, h.id, h.code, h.sure, h.len, ?_, ?_, ?_⟩
  · rw [hbr, hu]
    rcases h.told with ⟨h1, h2⟩ | ⟨h1, h2, h3⟩
    · exact .inl ⟨h1, h2⟩
    · exact .inr ⟨h1, h2, by omega⟩
  · rw [hu]; have := h.top; omega
  · rw [hbr]
    have hb := bare_le (s := s) a ⟨hf.1, by omega⟩ (by rw [h.id]; decide)
    have := (phi_ack h.pr hi (by have := h.pr.ok.sure; rw [hE]; have := h.sure; omega)).2 hn0 (hi.full h.pr.ok (by omega))
    have hl := h.left
    split at hl <;> omega
theorem SureP.where' {a fresh : Int} {n : Nat} {fin : Bool} (h : SureP E top i told s) (hi : NextI s 150 500 a n fin fresh) : fin = false ∧ a + n ≤ max E 0 := by
  have hfin : fin = false := by rw [hi.ef]; unfold finS; rw [h.fd]; rfl
  have hn0 : 0 < n := by
    rcases Nat.eq_zero_or_pos n with h0 | h0
    · exact absurd ⟨by rw [h0]; rfl, by rw [hfin]; simp⟩ hi.some'
    · exact h0
  refine ⟨hfin, ?_⟩
  have hE := h.endS
  rcases hi.where' h.pr.ok with ⟨_, _, _, _, k3, k4, _⟩ | ⟨_, k1, k2, _⟩
  · omega
  · have := (k2 hn0).1; omega
/-- Nothing goes, and it is not done: the limit is reached ahead of what is sure, and no Reset was told. -/
theorem SureP.stuck (h : SureP E top i told s) (hd : doneS s = false) (ht : turnS s = none) (hn : nextS s 150 500 = none) : told = false ∧ s.u < E ∧ s.l - s.u = 0 := by
  have hok := h.pr.ok
  have hou := hok.u
  have hE := h.endS
  have hdu := dueS_in hok 500
  have hln := h.len
  have hsu := hok.sure
  have hsE := h.sure
  have hb := bare_le (s := s) (dueS s 500).1 ⟨hdu.1, by omega⟩ (by rw [h.id]; decide)
  obtain ⟨h1, _⟩ := next_none hok (by omega) hn
  obtain ⟨h2, h3, h4⟩ := h.pr.stuck h1 (by omega)
  rw [hE] at h3 h4
  have hlt : s.u < E := by
    rcases Int.lt_or_le s.u E with hx | hx
    · exact hx
    · exfalso
      have hall : allF s.came 0 s.sure = true := by
        rw [h.sure]
        exact allF_of hok.came (by omega) (by omega) fun x h0 h1 => h4 x h0 h1 (by omega)
      have hbr : dueN s.br = false := by
        cases hr : dueN s.br
        · rfl
        · unfold turnS at ht
          rw [if_neg ?_] at ht
          · cases ht
          · rintro (hx1 | hx1 | hx1)
            · rw [h.rs] at hx1; cases hx1
            · omega
            · rw [hr] at hx1; cases hx1
      have h5 : ¬ (s.br = 0 ∨ s.br = 2) := of_decide_eq_false hbr
      have h6 : s.br = 3 := by
        rcases h.told with ⟨_, hx2⟩ | ⟨_, hx2, _⟩ <;> omega
      have : doneS s = true := by
        unfold doneS
        rw [h.rs, h6, hall]
        simp
      rw [hd] at this; cases this
  refine ⟨?_, hlt, by omega⟩
  rcases h.told with ⟨hx, _⟩ | ⟨_, _, hx⟩
  · exact hx
  · omega
theorem SureP.end' (h : SureP E top i told s) (hd : doneS s = true) : told = true ∧ s.u = max top E := by
  have h3 : s.br = 3 := by
    unfold doneS at hd
    rw [h.fd, h.rs] at hd
    simp at hd
    exact hd.1
  rcases h.told with ⟨_, hx⟩ | ⟨h1, _, h2⟩
  · omega
  · have := h.top; exact ⟨h1, by omega⟩
end
end Go.Proofs.Ytppbhjjkccogkaa.Se
