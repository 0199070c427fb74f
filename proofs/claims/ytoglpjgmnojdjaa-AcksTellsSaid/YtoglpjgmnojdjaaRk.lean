/- The Ack of what came is right; Right of it: a contract. Conditions: as each theorem lists them. -/
import Derived.Test.YtoglpjgmnojdjaaNb
set_option linter.unusedSimpArgs false
set_option linter.unusedVariables false
namespace Go.Proofs.Ytoglpjgmnojdjaa.Sp
open Go Go.RowKit

theorem ack_right {s : St} (h : Win s) (h0 : 0 ≤ s.nw) : rightB (ackF s.es) = true := by
  obtain ⟨hl, _⟩ := h.last h0
  have hev := h.ok.2.1
  obtain ⟨m, hm⟩ : ∃ m, s.es.length = 2 * m := ⟨s.es.length / 2, by omega⟩
  have hd : s.es.length / 2 = m := by omega
  have hlen : (ackF s.es).spans.length = 2 * min m 8 := by
    show (ackL s.es (s.es.length / 2) (min (s.es.length / 2) 8)).length = _
    rw [hd, ackL_len]
  have hj : min m 8 ≤ m := Nat.min_le_left _ _
  have hrs : rsB (ackF s.es).spans (min m 8) = true := by
    have hall : ∀ k, k < min m 8 → spK (ackF s.es).spans k = true := fun k hk => by
      show spK (ackL s.es (s.es.length / 2) (min (s.es.length / 2) 8)) k = true
      rw [hd]
      obtain ⟨r0, r1, r2, r3, _⟩ := ack_run h.ok m hm (min m 8) k hj hk
      unfold spK
      simp only [Bool.and_eq_true, Bool.or_eq_true, decide_eq_true_eq]
      refine ⟨⟨⟨r0, r2⟩, r1⟩, ?_⟩
      by_cases hk0 : k = 0
      · exact .inl hk0
      · have := r3 (by omega)
        obtain ⟨q0, q1, q2, _, _⟩ := ack_run h.ok m hm (min m 8) (k - 1) hj (by omega)
        refine .inr ?_
        rw [IntWalk.wrap64_in _ (by omega)]
        omega
    rw [rsB_all hall]
    simp only [Bool.and_eq_true, decide_eq_true_eq]
    omega
  have e1 : (ackF s.es).spans.length / 2 = min m 8 := by omega
  have e2 : decide (0 < min m 8) = true := decide_eq_true (by omega)
  unfold rightB
  rw [e1, hrs]
  show (kn 2 && rnB 0 0 0 0 && (bits .andNot .i64 (carI (carB 0 0 0 0 false 0 (min m 8)) 7) (nm 2 : Int) == 0) && rdB 2 0 0 && (_ || true)) = true
  unfold carB
  rw [e2, Bool.or_true]
  decide +kernel

/-- The runs of the Ack of what came. -/
theorem ack_facts {s : St} (h : Win s) (h0 : 0 ≤ s.nw) : 1 ≤ min (s.es.length / 2) 8 ∧ (ackF s.es).spans.length = min (s.es.length / 2) 8 * 2 ∧ (ackF s.es).spans.getD 1 0 = s.nw ∧
    ∀ j, j < min (s.es.length / 2) 8 → 0 ≤ (ackF s.es).spans.getD (2 * j) 0 ∧ (ackF s.es).spans.getD (2 * j) 0 ≤ (ackF s.es).spans.getD (2 * j + 1) 0 ∧ (ackF s.es).spans.getD (2 * j + 1) 0 ≤ 4611686018427387903 ∧
      ∀ n, (ackF s.es).spans.getD (2 * j) 0 ≤ n → n ≤ (ackF s.es).spans.getD (2 * j + 1) 0 → mem s.es n = true := by
  obtain ⟨hl, hlast⟩ := h.last h0
  have hev := h.ok.2.1
  obtain ⟨m, hm⟩ : ∃ m, s.es.length = 2 * m := ⟨s.es.length / 2, by omega⟩
  have hd : s.es.length / 2 = m := by omega
  have hsp : (ackF s.es).spans = ackL s.es m (min m 8) := by
    show ackL s.es (s.es.length / 2) (min (s.es.length / 2) 8) = _
    rw [hd]
  rw [hsp, hd]
  refine ⟨by omega, by rw [ackL_len]; omega, ?_, fun j hj => ?_⟩
  · have := (ackL_get s.es m (min m 8) 0 (by omega)).2
    rw [show 2 * (m - 1 - 0) + 1 = s.es.length - 1 by omega, hlast] at this
    rw [show (1 : Nat) = 2 * 0 + 1 from rfl, this]
    omega
  · obtain ⟨r0, r1, r2, _, r4⟩ := ack_run h.ok m hm (min m 8) j (Nat.min_le_left _ _) hj
    exact ⟨r0, r1, r2, r4⟩

theorem right_ack {s : St} (h : Win s) (h0 : 0 ≤ s.nw) (A : Option Addr) (c : Nat) (w : World) (hown : w.ownsRow 0 57 2 (.slice A (min (s.es.length / 2) 8) c) (min (s.es.length / 2) 8) (ints (ackF s.es).spans)) :
    Calls Try.prog 33 #[.agg #[.int .i64 2, .int .i64 0, .int .i64 0, .int .i64 0, .int .i64 0, .int .i64 0, .bool false, .slice none 0 0, .slice A (min (s.es.length / 2) 8) c]] w fun e w' => e = .returned (.bool true) ∧ Below w.heap.size w w' := by
  obtain ⟨_, _, ev, hnc, _, _, hrd⟩ := own_form hown
  simp only [Value.slice.injEq] at ev
  obtain ⟨rfl, _, rfl⟩ := ev
  have hl : (ackF s.es).spans.length = min (s.es.length / 2) 8 * 2 := by have := hown.1; rwa [ints_len] at this
  have := right_any (ackF s.es) w.heap.size none 0 0 A (min (s.es.length / 2) 8) c w ⟨rfl, Nat.le_refl _, Rd.nil _ _ _, hl, hnc, hrd⟩ (Nat.le_refl _) (by omega) (by omega)
  rw [ack_right h h0] at this
  exact this
end Go.Proofs.Ytoglpjgmnojdjaa.Sp
