/- Joined texts. Numbers noted, and what had come, in an array: plainly; in memory. Conditions: as each theorem lists them. The Ack of what came, laid and read: plainly. Conditions: as each theorem lists them. -/
import Derived.Test.YtoglpjgmnojdjaaDoorJA5
import Derived.Test.YtoglpjgmnojdjaaDoorJ7
import Derived.Test.YtoglpjgmnojdjaaDoorJ5
set_option linter.unusedSimpArgs false
set_option linter.unusedVariables false

namespace Go.Proofs.YtoglpjgmnojdjaaDoor.Sp
open Go Go.RowKit

/-- What had come (had) is what is in the set, and what is too far behind. -/
structure OnceI (N : Nat) (s : St) (had : List Bool) : Prop where
  win : Win s
  len : had.length = N
  top : s.nw < N
  is : ∀ j : Nat, j < N → mem s.es (j : Int) = (had.getD j false && decide (s.nw - 64 ≤ (j : Int)))

theorem once0 (N : Nat) : OnceI N st0 (List.replicate N false) := ⟨win0, by simp, by show (-1 : Int) < _; omega, fun j hj => by rw [show mem st0.es (j : Int) = false from rfl]; simp [List.getD, hj]⟩

theorem noteS_yes {s : St} {num : Int} {e : Bool} (hb : noteB s num = true) : noteS s num e = ⟨turn (turn s.es num (num + 1) true) 0 (max s.nw num - 64) false, s.ow || e, max s.nw num⟩ := by unfold noteS; rw [if_pos hb]
theorem noteS_no {s : St} {num : Int} {e : Bool} (hb : noteB s num = false) : noteS s num e = s := by unfold noteS; rw [hb]; rfl

theorem getD_set (had : List Bool) (q j : Nat) (hq : q < had.length) : (had.set q true).getD j false = (decide (j = q) || had.getD j false) := by
  simp only [List.getD]
  by_cases e : j = q
  · subst e; simp [List.getElem?_set, hq]
  · rw [List.getElem?_set_ne (fun h => e h.symm), decide_eq_false e, Bool.false_or]

theorem OnceI.yes {N : Nat} {s : St} {had : List Bool} (h : OnceI N s had) (hN : N ≤ 4611686018427387903) (q : Nat) (hq : q < N) (e : Bool) (hb : noteB s q = true) : had.getD q false = false ∧ ¬ (q : Int) < s.nw - 64 ∧ OnceI N (noteS s q e) (had.set q true) := by
  obtain ⟨h0, h1, h2, h3⟩ := (noteB_iff s q).1 hb
  have hi := h.is q hq
  rw [h2, decide_eq_true h3, Bool.and_true] at hi
  have hnw : (noteS s q e).nw = max s.nw q := by rw [noteS_yes hb]
  refine ⟨hi.symm, by omega, h.win.note q e, by rw [List.length_set]; exact h.len, by rw [hnw]; have := h.top; omega, fun j hj => ?_⟩
  rw [mem_note h.win q e hb j, hnw, getD_set had q j (by rw [h.len]; exact hq), h.is j hj]
  by_cases e1 : j = q
  · subst e1
    rw [decide_eq_true rfl, decide_eq_true (show max s.nw (j : Int) - 64 ≤ (j : Int) by omega)]
    simp
  · rw [decide_eq_false e1, decide_eq_false (show ¬ (j : Int) = (q : Int) by omega)]
    by_cases c : max s.nw (q : Int) - 64 ≤ (j : Int)
    · rw [decide_eq_true c, decide_eq_true (show s.nw - 64 ≤ (j : Int) by omega)]; simp
    · rw [decide_eq_false c]; simp
theorem OnceI.no {N : Nat} {s : St} {had : List Bool} (h : OnceI N s had) (hN : N ≤ 4611686018427387903) (q : Nat) (hq : q < N) (hb : noteB s q = false) (hh : had.getD q false = false) : (q : Int) < s.nw - 64 := by
  rcases Int.lt_or_le (q : Int) (s.nw - 64) with h0 | h0
  · exact h0
  · have hi := h.is q hq
    rw [hh, Bool.false_and] at hi
    rw [(noteB_iff s q).2 ⟨by omega, by omega, hi, h0⟩] at hb
    cases hb
/-- Where nothing can be too far behind, a number that is noted is among what came, whatever Note says. -/
theorem OnceI.all {N : Nat} {s : St} {had : List Bool} (h : OnceI N s had) (hN : N ≤ 64) (q : Nat) (hq : q < N) (e : Bool) : OnceI N (noteS s q e) (had.set q true) := by
  cases hb : noteB s q with
  | true => exact (h.yes (by omega) q hq e hb).2.2
  | false =>
    rw [noteS_no hb]
    have hh : had.getD q false = true := by
      cases hh : had.getD q false with
      | true => rfl
      | false => have := h.no (by omega) q hq hb hh; have := h.top; omega
    refine ⟨h.win, by rw [List.length_set]; exact h.len, h.top, fun j hj => ?_⟩
    rw [getD_set had q j (by rw [h.len]; exact hq), h.is j hj]
    by_cases e1 : j = q
    · subst e1; rw [hh]; simp
    · rw [decide_eq_false e1]; simp

theorem OnceI.some {N : Nat} {s : St} {had : List Bool} (h : OnceI N s had) (hN : N ≤ 64) (q : Nat) (hq : q < N) (e : Bool) : 0 ≤ (noteS s q e).nw := by
  cases hb : noteB s q with
  | true => rw [noteS_yes hb]; show 0 ≤ max s.nw (q : Int); omega
  | false =>
    rw [noteS_no hb]
    cases hm : mem s.es (q : Int) with
    | true => have := h.win.win q hm; omega
    | false =>
      have := h.top
      rw [(noteB_iff s q).2 ⟨by omega, by omega, hm, by omega⟩] at hb
      cases hb
/-- Where nothing is too far behind, the array is the set. -/
theorem OnceI.set {N : Nat} {s : St} {had : List Bool} (h : OnceI N s had) (hN : N ≤ 64) (j : Nat) (hj : j < N) : mem s.es (j : Int) = had.getD j false := by
  rw [h.is j hj, decide_eq_true (show s.nw - 64 ≤ (j : Int) by have := h.top; omega), Bool.and_true]

/-- An array of bools in block hb. -/
def HadIn (w : World) (hb : Nat) (T : TypeId) (had : List Bool) : Prop := w.heap[hb]? = some (.cells (had.map Value.bool).toArray T (0, 0))
theorem HadIn.get {w : World} {hb : Nat} {T : TypeId} {had : List Bool} (h : HadIn w hb T had) (k : Nat) (hk : k < had.length) : w.cell? ⟨hb, k, none⟩ = some (.bool (had.getD k false)) ∧ w.frozen? ⟨hb, k, none⟩ = false :=
  ⟨cell_slot h (by simp [List.getD, hk]), free_slot h⟩
theorem HadIn.set {w : World} {hb : Nat} {T : TypeId} {had : List Bool} (h : HadIn w hb T had) (k : Nat) (b : Bool) : HadIn (w.setCell ⟨hb, k, none⟩ (.bool b)) hb T (had.set k b) := by
  have := set_slot h k (.bool b)
  unfold HadIn
  rw [this]
  simp [List.map_set]
theorem HadIn.lt {w : World} {hb : Nat} {T : TypeId} {had : List Bool} (h : HadIn w hb T had) : hb < w.heap.size := lt_of_block h

/-- Numbers that are read stay while an array of bools is written. -/
theorem rd_had {w : World} {B n hb k : Nat} {A : Option Addr} {l : List Int} {T : TypeId} {had : List Bool} {u : Value} (h : Rd w B A n (ints l)) (hh : HadIn w hb T had) : Rd (w.setCell ⟨hb, k, none⟩ u) B A n (ints l) := by
  refine ⟨h.1, fun hn => ?_⟩
  obtain ⟨b, off, rfl, hlt, hc⟩ := h.2 hn
  refine ⟨b, off, rfl, hlt, fun j v hv => ?_⟩
  have h1 := hc j v hv
  have hne : b ≠ hb := fun e => by
    subst e
    rw [ints, List.getElem?_map] at hv
    cases hl : l[j]? with
    | none => rw [hl] at hv; cases hv
    | some z =>
      rw [hl] at hv
      cases hv
      have h2 : w.cell? ⟨b, off + j, none⟩ = ((had.map Value.bool).toArray)[off + j]? := by unfold HadIn at hh; simp only [World.cell?, hh]; simp
      rw [h2] at h1
      simp only [List.getElem?_toArray, List.getElem?_map] at h1
      cases hm : had[off + j]? <;> rw [hm] at h1 <;> cases h1
  have hg : w.grownBy (w.setCell ⟨hb, k, none⟩ u) (some hb) := grown_cell u
  exact hg.cell h1 (by simp; omega)
/-- What came stays while the array is written. -/
theorem SeenIn.but {w : World} {p hb k : Nat} {s : St} {T : TypeId} {had : List Bool} {u : Value} (h : SeenIn w p s) (hh : HadIn w hb T had) (hpq : p ≠ hb) : SeenIn (w.setCell ⟨hb, k, none⟩ u) p s := by
  have hlt := h.lt
  have hg : w.grownBy (w.setCell ⟨hb, k, none⟩ u) (some hb) := grown_cell u
  obtain ⟨v, h1, h2, A, c, h3, h4, h5, h6, h7⟩ := h
  exact ⟨v, h1, (hg.block p hlt (by simp; omega)).trans h2, A, c, h3, h4, h5, (rd_had h6 hh).more hg.size, h7⟩
end Go.Proofs.YtoglpjgmnojdjaaDoor.Sp

namespace Go.Proofs.YtoglpjgmnojdjaaDoor.Sp
open Go Go.RowKit

theorem ack_ok {s : St} (h : Win s) (h0 : 0 ≤ s.nw) : OkF (ackF s.es) := by
  obtain ⟨hl, _⟩ := h.last h0
  have hev := h.ok.2.1
  obtain ⟨m, hm⟩ : ∃ m, s.es.length = 2 * m := ⟨s.es.length / 2, by omega⟩
  have hd : s.es.length / 2 = m := by omega
  have hsp : (ackF s.es).spans = ackL s.es m (min m 8) := by
    show ackL s.es (s.es.length / 2) (min (s.es.length / 2) 8) = _
    rw [hd]
  have h2 : (ackF s.es).k = 2 := rfl
  refine ⟨⟨(by decide : (1 : Int) ≤ 2), (by decide : (2 : Int) ≤ 12)⟩, ⟨(by decide : wid 0 ≠ 0), (by decide : wid 0 ≠ 0), (by decide : wid 0 ≠ 0), (by decide : wid 0 ≠ 0)⟩, Int.le_refl _, ⟨Nat.zero_le _, fun c hc => by cases hc⟩, (by decide : (0 : Int) + ((0 : Nat) : Int) ≤ 4611686018427387903), fun h => absurd (h2.symm.trans h) (by decide), ?_, ?_, ?_, ?_, ?_, ?_, .inl ⟨rfl, min m 8, by omega, by omega, ?_⟩⟩
  · exact .inr (.inr (.inr (.inr (.inr (.inr rfl)))))
  · exact .inr (.inr (.inr (.inr (.inr (.inr rfl)))))
  · exact .inr (.inr rfl)
  · exact .inr rfl
  · exact .inr (.inr rfl)
  · exact .inr (.inr rfl)
  · rw [hsp]
    refine ⟨by rw [ackL_len]; omega, fun k hk => ?_⟩
    obtain ⟨r0, r1, r2, r3, _⟩ := ack_run h.ok m hm (min m 8) k (Nat.min_le_left _ _) hk
    exact ⟨r0, r1, r2, r3⟩

/-- How many numbers the first j runs of a list tell. -/
def tel (sp : List Int) : Nat → Int
  | 0 => 0
  | j + 1 => tel sp j + (sp.getD (2 * j + 1) 0 - sp.getD (2 * j) 0 + 1)
theorem tel_tsum (es : List Int) (m J : Nat) : ∀ j, j ≤ J → tel (ackL es m J) j = tsum es m j
  | 0, _ => rfl
  | j + 1, hj => by
    obtain ⟨e1, e2⟩ := ackL_get es m J j (by omega)
    rw [tel, tsum, tel_tsum es m J j (by omega), e1, e2]
    omega

/-- What the law asks in the end. -/
theorem answer_end {s : St} {had : List Bool} (h : OnceI 40 s had) (h0 : 0 ≤ s.nw) :
    tel (ackF s.es).spans (min (s.es.length / 2) 8) ≤ (card 40 (mem s.es) : Int) ∧ 0 ≤ tel (ackF s.es).spans (min (s.es.length / 2) 8) ∧ card 40 (rise s.es) = s.es.length / 2 ∧ (s.es.length / 2 ≤ 8 → tel (ackF s.es).spans (min (s.es.length / 2) 8) = (card 40 (mem s.es) : Int)) := by
  have hw := h.win
  have htop := h.top
  have hev := hw.ok.2.1
  obtain ⟨m, hm⟩ : ∃ m, s.es.length = 2 * m := ⟨s.es.length / 2, by omega⟩
  have hd : s.es.length / 2 = m := by omega
  have hsp : (ackF s.es).spans = ackL s.es m (min m 8) := by
    show ackL s.es (s.es.length / 2) (min (s.es.length / 2) 8) = _
    rw [hd]
  have hr : ∀ e ∈ s.es, 0 ≤ e ∧ e ≤ ((40 : Nat) : Int) := fun e he => ⟨(hw.ok.2.2 e he).1, by have := hw.edges e he; omega⟩
  have hc := cnt_card 40 s.es hw.ok.1 hev hr
  have hrise := card_rise 40 s.es hw.ok.1 hev hr
  have h1 := tsum_le hw.ok m hm (min m 8) (Nat.min_le_left _ _)
  rw [hsp, hd, tel_tsum s.es m (min m 8) _ (Nat.le_refl _), ← hc]
  refine ⟨h1.2, h1.1, by omega, fun h8 => ?_⟩
  rw [Nat.min_eq_left h8]
  exact tsum_all hw.ok m hm

theorem tel_bound {s : St} (h : Win s) (h0 : 0 ≤ s.nw) (j : Nat) (hj : j ≤ min (s.es.length / 2) 8) : 0 ≤ tel (ackF s.es).spans j ∧ tel (ackF s.es).spans j ≤ 65 := by
  have hev := h.ok.2.1
  obtain ⟨m, hm⟩ : ∃ m, s.es.length = 2 * m := ⟨s.es.length / 2, by omega⟩
  have hd : s.es.length / 2 = m := by omega
  have hsp : (ackF s.es).spans = ackL s.es m (min m 8) := by
    show ackL s.es (s.es.length / 2) (min (s.es.length / 2) 8) = _
    rw [hd]
  rw [hd] at hj
  rw [hsp, tel_tsum s.es m (min m 8) j hj]
  have h1 := tsum_le h.ok m hm j (by omega)
  have h2 := h.cnt
  omega

/-- A slice of one frame, in a block of its own. -/
theorem frs_one {w : World} {f : Fr} {cs : List Value} (g : Nat) (hb : w.heap[g]? = some (.cells cs.toArray 48 (0, 0))) (h : FrC w f cs) : Frs w (some ⟨g, 0, none⟩) 1 1 [f] := by
  refine ⟨rfl, Nat.le_refl _, cs, ?_, FrsC.one h⟩
  have := rd_block w g cs.toArray 48 w.heap.size hb (Nat.le_refl _)
  have hl : cs.toArray.size = 1 * 9 := by rw [List.size_toArray, h.len]
  rw [hl] at this
  exact this

theorem frc_parts {w : World} {f : Fr} {A1 : Option Addr} {n1 c1 : Nat} {A2 : Option Addr} {n2 c2 : Nat} (h : FrC w f (frC f (.slice A1 n1 c1) (.slice A2 n2 c2))) : f.data.length = n1 ∧ f.spans.length = n2 * 2 ∧ n2 ≤ c2 ∧ Rd w w.heap.size A1 n1 (bv f.data) ∧ Rd w w.heap.size A2 (n2 * 2) (ints f.spans) := by
  obtain ⟨_, _, _, _, _, _, e, l1, l2, o1, o2⟩ := h
  simp only [frC, List.cons.injEq, Value.slice.injEq, true_and, and_true] at e
  obtain ⟨⟨rfl, rfl, rfl⟩, rfl, rfl, rfl⟩ := e
  obtain ⟨_, _, ev, _, _, _, r1⟩ := own_form o1
  simp only [Value.slice.injEq] at ev
  obtain ⟨rfl, _, rfl⟩ := ev
  obtain ⟨_, _, ev, hc2, _, _, r2⟩ := own_form o2
  simp only [Value.slice.injEq] at ev
  obtain ⟨rfl, _, rfl⟩ := ev
  rw [Nat.mul_one] at r1
  exact ⟨l1, l2, hc2, r1, r2⟩

theorem card_step (k : Nat) (p : Int → Bool) (b : Bool) (h : p (k : Int) = b) : card (k + 1) p = card k p + if b = true then 1 else 0 := by rw [card_succ, h]
theorem card_le (k : Nat) (p : Int → Bool) : card k p ≤ k := by
  unfold card
  have := List.countP_le_length (p := fun i : Nat => p (i : Int)) (l := List.range k)
  rwa [List.length_range] at this
end Go.Proofs.YtoglpjgmnojdjaaDoor.Sp
