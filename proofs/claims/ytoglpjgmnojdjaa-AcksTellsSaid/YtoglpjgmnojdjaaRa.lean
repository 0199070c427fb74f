/- The reference's Seen: New, Note: contracts. Conditions: as each theorem lists them. -/
import Derived.Test.YtoglpjgmnojdjaaTc
import Derived.Test.YtoglpjgmnojdjaaNa
set_option linter.unusedSimpArgs false
set_option linter.unusedVariables false
namespace Go.Proofs.Ytoglpjgmnojdjaa.Sp.Ref
open Go Go.RowKit

/-- What came, the reference's, in block p. -/
def RSeen (w : World) (p : Nat) (s : St) : Prop := ∃ v, RefIn w p 0 63 #[v, .bool s.ow, .int .i64 s.nw] s.es

theorem RSeen.lt {w : World} {p : Nat} {s : St} (h : RSeen w p s) : p < w.heap.size := by obtain ⟨v, h⟩ := h; exact h.lt
theorem RSeen.below {w w' : World} {p : Nat} {s : St} (h : RSeen w p s) (hb : Below w.heap.size w w') : RSeen w' p s := by obtain ⟨v, h⟩ := h; exact ⟨v, h.below hb⟩
theorem RefIn.blk {w : World} {p o : Nat} {Tt : TypeId} {cur : Array Value} {es : List Int} (h : RefIn w p o Tt cur es) : w.heap[p]? = some (.cells cur Tt (0, 0)) := by
  obtain ⟨_, A, n, c, _, ⟨h2, _⟩, _⟩ := h
  exact h2
theorem RSeen.cells {w : World} {p : Nat} {s : St} (h : RSeen w p s) : w.cell? ⟨p, 1, none⟩ = some (.bool s.ow) ∧ w.cell? ⟨p, 2, none⟩ = some (.int .i64 s.nw) ∧ ∀ o, w.frozen? ⟨p, o, none⟩ = false := by
  obtain ⟨v, h⟩ := h
  exact ⟨cell_slot h.blk rfl, cell_slot h.blk rfl, fun o => free_slot h.blk⟩

theorem rnew_any (w : World) :
    Calls Try.prog 34 #[] w fun e w' => ∃ p, e = .returned (.pointer (some ⟨p, 0, none⟩)) ∧ w.heap.size ≤ p ∧ RSeen w' p st0 ∧ Below w.heap.size w w' := by
  go_enter Try.func34, Try.ntmps34
  go_wp2
  go_ret
  refine ⟨w.heap.size, rfl, Nat.le_refl _, ?_, (Below.refl _ _).alloc (Nat.le_refl _) _⟩
  exact ⟨.slice none 0 0, ok_nil, none, 0, 0, rfl, ⟨heap_alloc_new _ _, rfl⟩, Nat.le_refl _, Rd.nil _ _ _, fun a ha => by cases ha⟩

theorem rnote_no (s : St) (hw : Win s) (p : Nat) (num : Int) (el : Bool) (w : World) (h : RSeen w p s) (hb : noteB s num = false) :
    Calls Try.prog 36 #[.pointer (some ⟨p, 0, none⟩), .int .i64 num, .bool el] w fun e w' => e = .returned (.bool false) ∧ w = w' := by
  have hlo := hw.lo
  have hhi := hw.hi
  have HMA := Lib.hid (may_any num w)
  have HHA : Hid (Calls Try.prog 16 #[.pointer (some ⟨p, 0, none⟩), .int .i64 num] w fun e w' => e = .returned (.bool (mem s.es num)) ∧ w = w') := by
    obtain ⟨v, h⟩ := h
    exact rhas_any s.es p 0 _ _ num w h (by have := hw.len; omega)
  obtain ⟨k1, k2, kf⟩ := h.cells
  clear kf k1 h
  obtain ⟨nw, hnw⟩ : ∃ x, Hid (s.nw = x) := ⟨_, rfl⟩
  cases hm : mayB num with
  | false =>
    rw [hm] at HMA
    clear hm hb hlo hhi k2
    go_enter Try.func36, Try.ntmps36
    go_wp2_with (go_at_call 54; refine HMA.out.mono ?_; rintro e w' ⟨rfl, rfl⟩)
    go_ret
    exact ⟨rfl, rfl⟩
  | true =>
    rw [hm] at HMA
    have hm2 : 0 ≤ num ∧ num ≤ 4611686018427387903 := by unfold mayB at hm; simpa using hm
    cases hh : mem s.es num with
    | true =>
      rw [hh] at HHA
      clear hm hh hb k2
      go_enter Try.func36, Try.ntmps36
      go_wp2_with (first | (go_at_call 54; refine HMA.out.mono ?_; rintro e w' ⟨rfl, rfl⟩) | (go_at_call 16; refine HHA.out.mono ?_; rintro e w' ⟨rfl, rfl⟩))
      go_ret
      exact ⟨rfl, rfl⟩
    | false =>
      have c3 : num < s.nw - 64 := by
        rcases Int.lt_or_le num (s.nw - 64) with h0 | h0
        · exact h0
        · rw [(noteB_iff s num).2 ⟨hm2.1, hm2.2, hh, h0⟩] at hb; cases hb
      rw [hh] at HHA
      clear hm hh hb
      rw [hnw.out] at k2 c3 hlo hhi
      go_enter Try.func36, Try.ntmps36
      go_wp2_with (first | (go_at_call 54; refine HMA.out.mono ?_; rintro e w' ⟨rfl, rfl⟩) | (go_at_call 16; refine HHA.out.mono ?_; rintro e w' ⟨rfl, rfl⟩))
      go_ret
      exact ⟨rfl, rfl⟩

set_option maxRecDepth 100000 in
set_option maxHeartbeats 2000000 in
theorem rnote_yes (s : St) (hw : Win s) (p : Nat) (num : Int) (el : Bool) (w : World) (h : RSeen w p s) (hb : noteB s num = true) :
    Calls Try.prog 36 #[.pointer (some ⟨p, 0, none⟩), .int .i64 num, .bool el] w fun e w' => e = .returned (.bool true) ∧ RSeen w' p (noteS s num el) ∧ w.grownBy w' (some p) := by
  have hlo := hw.lo
  have hhi := hw.hi
  obtain ⟨b0, b1, b2, b3⟩ := (noteB_iff s num).1 hb
  have HLN := Lib.hid hw.len
  have HLT := Lib.hid (turn_len s.es num (num + 1) true)
  have HMA : Hid (Calls Try.prog 54 #[.int .i64 num] w fun e w' => e = .returned (.bool true) ∧ w = w') := by
    have := may_any num w
    rwa [show mayB num = true by unfold mayB; simp; exact ⟨b0, b1⟩] at this
  have HHA : Hid (Calls Try.prog 16 #[.pointer (some ⟨p, 0, none⟩), .int .i64 num] w fun e w' => e = .returned (.bool false) ∧ w = w') := by
    obtain ⟨v, h⟩ := h
    have := rhas_any s.es p 0 _ _ num w h (by have := hw.len; omega)
    rwa [b2] at this
  have HS : Hid (noteS s num el = ⟨turn (turn s.es num (num + 1) true) 0 (max s.nw num - 64) false, s.ow || el, max s.nw num⟩) := by show _ = _; unfold noteS; rw [if_pos hb]
  obtain ⟨S', hS'⟩ : ∃ x, Hid (noteS s num el = x) := ⟨_, rfl⟩
  rw [hS'.out] at HS ⊢
  obtain ⟨ow, how⟩ : ∃ x, Hid (s.ow = x) := ⟨_, rfl⟩
  obtain ⟨nw, hnw⟩ : ∃ x, Hid (s.nw = x) := ⟨_, rfl⟩
  have k2 := h.cells.2.1
  rw [how.out] at HS
  rw [hnw.out] at HS hlo hhi b3 k2
  have c3 : ¬ num < nw - 64 := by omega
  have HAD : Hid (Calls Try.prog 9 #[.pointer (some ⟨p, 0, none⟩), .int .i64 num, .int .i64 (num + 1)] w fun e w' => e = .returned (.tuple #[]) ∧ RSeen w' p ⟨turn s.es num (num + 1) true, ow, nw⟩ ∧ w.grownBy w' (some p)) := by
    obtain ⟨v, h⟩ := h
    rw [how.out, hnw.out] at h
    refine (radd_any s.es p 0 _ _ num (num + 1) w h (by have := HLN.out; omega)).mono ?_
    rintro e w' ⟨rfl, ⟨v', h1⟩, h2⟩
    exact ⟨rfl, ⟨v', h1⟩, h2⟩
  clear h hb b2 b3 hw
  go_enter Try.func36, Try.ntmps36
  go_wp2_with fail
  refine HMA.out.mono ?_; rintro e w' ⟨rfl, rfl⟩
  go_wp2_with fail
  refine HHA.out.mono ?_; rintro e w' ⟨rfl, rfl⟩
  go_wp2_with fail
  refine HAD.out.mono ?_
  rintro e wa ⟨rfl, h1, h2⟩
  have HIa := Lib.hid h1
  have HGa := Lib.hid h2
  obtain ⟨k1a, k2a, kf⟩ := h1.cells
  have kf2 := kf 2
  clear h1 h2 kf HAD HMA HHA k2 k1a
  go_wp2_with fail
  refine still_tail 8 (by kernel_rfl) (by kernel_rfl) ?_
  intro wz hwz
  have HZ : Hid (RSeen wz p ⟨turn s.es num (num + 1) true, ow, max nw num⟩) := by
    rw [hwz]
    obtain ⟨v, h⟩ := HIa.out
    exact ⟨v, h.set (j := 2) (by decide) _⟩
  have HG : Hid (w.grownBy wz (some p)) := by
    rw [hwz]
    exact grown_draw (grown_trans HGa.out (grown_cell _))
  have kz := HZ.out.cells.2.1
  have HDR : Hid (Calls Try.prog 13 #[.pointer (some ⟨p, 0, none⟩), .int .i64 0, .int .i64 (max nw num - 64)] wz fun e w' => e = .returned (.tuple #[]) ∧ RSeen w' p ⟨S'.es, ow, S'.nw⟩ ∧ w.grownBy w' (some p)) := by
    obtain ⟨v, h⟩ := HZ.out
    refine (rdrop_any _ p 0 _ _ 0 (max nw num - 64) wz h (by have := HLN.out; have := HLT.out; show ((turn s.es num (num + 1) true).length + 1) * 32 ≤ _; omega)).mono ?_
    rintro e w' ⟨rfl, ⟨v', h1⟩, h2⟩
    refine ⟨rfl, ⟨v', ?_⟩, grown_trans HG.out h2⟩
    rw [HS.out]
    exact h1
  clear hwz HZ HG HIa HGa k2a kf2
  simp only [List.take_succ_cons, List.take_zero, List.drop_succ_cons, List.drop_zero]
  iterate 8 still_step
  refine wpStill_nil ?_
  go_wp2_with fail
  refine HDR.out.mono ?_
  rintro e wy ⟨rfl, h1, h2⟩
  have HIb := Lib.hid h1
  have HGb := Lib.hid h2
  obtain ⟨k1b, k2b, kf⟩ := h1.cells
  have kf1 := kf 1
  clear h1 h2 kf HDR k2b kz
  cases ow
  all_goals
    go_wp2_with fail
    go_ret
    refine ⟨rfl, ?_, grown_trans HGb.out (grown_cell _)⟩
    obtain ⟨v, h⟩ := HIb.out
    have := h.set (j := 1) (by decide) (.bool S'.ow)
    rw [HS.out] at this ⊢
    exact ⟨v, this⟩

theorem rnote_any (s : St) (hw : Win s) (p : Nat) (num : Int) (el : Bool) (w : World) (h : RSeen w p s) :
    Calls Try.prog 36 #[.pointer (some ⟨p, 0, none⟩), .int .i64 num, .bool el] w fun e w' => e = .returned (.bool (noteB s num)) ∧ RSeen w' p (noteS s num el) ∧ w.grownBy w' (some p) := by
  cases hb : noteB s num with
  | true => exact rnote_yes s hw p num el w h hb
  | false =>
    refine (rnote_no s hw p num el w h hb).mono ?_
    rintro e w' ⟨rfl, rfl⟩
    refine ⟨rfl, ?_, below_grown (Below.refl _ _) p⟩
    unfold noteS
    rw [hb]
    exact h
end Go.Proofs.Ytoglpjgmnojdjaa.Sp.Ref
