/- Seen: New, Newest, oldest, Note, Told: contracts. Conditions: as each theorem lists them. -/
import Derived.Test.YtoglpjgmnojdjaaDoorJA3
import Derived.Test.YtoglpjgmnojdjaaDoorJA1
import Derived.StillTailTactics
set_option linter.unusedSimpArgs false
set_option linter.unusedVariables false

namespace Go.Proofs.YtoglpjgmnojdjaaDoor.Sp
open Go Go.RowKit

theorem still_tail {P : Program} {id : Nat} {Q : Exit → Act → World → Prop} {a : Act} {w : World} {l : List Oper} (n : Nat) (hm : P.follows .mixedOrders = true) (hB : Region.lexTailB .any l.toArray n = true)
    (h : ∀ w' : World, w' = w.drew → wpStill P l.toArray w' (fun a' => wpList P l.toArray Q (l.drop n) a' w') (l.take n) a) : (Code.region id l.toArray true).wp P Q a w :=
  wp_region_still_tail n hm hB (h _ rfl)

/-- What came, in block p. -/
def SeenIn (w : World) (p : Nat) (s : St) : Prop := ∃ v, SetIn w p 0 77 #[v, .bool s.ow, .int .i64 (s.nw + 1)] s.es

theorem SeenIn.lt {w : World} {p : Nat} {s : St} (h : SeenIn w p s) : p < w.heap.size := by obtain ⟨v, h⟩ := h; exact h.lt
theorem SeenIn.below {w w' : World} {p : Nat} {s : St} (h : SeenIn w p s) (hb : Below w.heap.size w w') : SeenIn w' p s := by obtain ⟨v, h⟩ := h; exact ⟨v, h.below hb⟩
theorem SeenIn.cells {w : World} {p : Nat} {s : St} (h : SeenIn w p s) : w.cell? ⟨p, 1, none⟩ = some (.bool s.ow) ∧ w.cell? ⟨p, 2, none⟩ = some (.int .i64 (s.nw + 1)) ∧ ∀ o, w.frozen? ⟨p, o, none⟩ = false := by
  obtain ⟨v, h⟩ := h
  exact ⟨cell_slot h.2.1 rfl, cell_slot h.2.1 rfl, fun o => free_slot h.2.1⟩

theorem newest_any (p : Nat) (nx : Int) (w : World) (h : w.cell? ⟨p, 2, none⟩ = some (.int .i64 (nx + 1))) (h1 : -1 ≤ nx) (h2 : nx ≤ 4611686018427387904) :
    Calls Tryd.prog 46 #[.pointer (some ⟨p, 0, none⟩)] w fun e w' => e = .returned (.int .i64 nx) ∧ w' = w := by
  go_enter Tryd.func46, Tryd.ntmps46
  go_wp2
  go_ret
  exact ⟨ret_int (by omega), rfl⟩

theorem oldest_any (p : Nat) (nx : Int) (w : World) (h : w.cell? ⟨p, 2, none⟩ = some (.int .i64 (nx + 1))) (h1 : -1 ≤ nx) (h2 : nx ≤ 4611686018427387904) :
    Calls Tryd.prog 48 #[.pointer (some ⟨p, 0, none⟩)] w fun e w' => e = .returned (.int .i64 (max (nx - 64) 0)) ∧ w' = w := by
  have H := Lib.hid (newest_any p nx w h h1 h2)
  clear h
  go_enter Tryd.func48, Tryd.ntmps48
  go_wp2_with (go_at_call 46; refine H.out.mono ?_; rintro e w' ⟨rfl, rfl⟩)
  all_goals go_ret
  all_goals exact ⟨ret_int (by omega), rfl⟩

theorem new_any (w : World) :
    Calls Tryd.prog 19 #[] w fun e w' => ∃ p, e = .returned (.pointer (some ⟨p, 0, none⟩)) ∧ w.heap.size ≤ p ∧ SeenIn w' p st0 ∧ Below w.heap.size w w' := by
  go_enter Tryd.func19, Tryd.ntmps19
  go_wp2
  go_ret
  refine ⟨w.heap.size, rfl, Nat.le_refl _, ?_, (Below.refl _ _).alloc (Nat.le_refl _) _⟩
  exact ⟨.slice none 0 0, ok_nil, heap_alloc_new _ _, none, 0, rfl, Nat.le_refl _, fun _ => .inl ⟨rfl, rfl⟩, Rd.nil _ _ _, fun a ha => by cases ha⟩

theorem note_no (s : St) (hw : Win s) (p : Nat) (num : Int) (el : Bool) (w : World) (h : SeenIn w p s) (hb : noteB s num = false) :
    Calls Tryd.prog 21 #[.pointer (some ⟨p, 0, none⟩), .int .i64 num, .bool el] w fun e w' => e = .returned (.bool false) ∧ ∃ q, w' = w.drewN q := by
  have hlo := hw.lo
  have hhi := hw.hi
  have HOL := Lib.hid (oldest_any p s.nw w h.cells.2.1 hlo (by omega))
  have HHA : Hid (Calls Tryd.prog 47 #[.pointer (some ⟨p, 0, none⟩), .int .i64 num] w fun e w' => e = .returned (.bool (mem s.es num)) ∧ ∃ q, w' = w.drewN q) := by
    obtain ⟨v, h⟩ := h
    obtain ⟨A, c, hat, _⟩ := h.at (by have := hw.len; omega)
    exact has_any s.es w.heap.size p 0 A c num w hat
  by_cases c1 : num < max (s.nw - 64) 0
  · go_enter Tryd.func21, Tryd.ntmps21
    go_wp2_with (go_at_call 48; refine HOL.out.mono ?_; rintro e w' ⟨rfl, rfl⟩)
    go_ret
    exact ⟨rfl, 0, rfl⟩
  · by_cases c2 : 4611686018427387903 < num
    · go_enter Tryd.func21, Tryd.ntmps21
      go_wp2_with (go_at_call 48; refine HOL.out.mono ?_; rintro e w' ⟨rfl, rfl⟩)
      go_ret
      exact ⟨rfl, 0, rfl⟩
    · have c3 : mem s.es num = true := by
        cases hm : mem s.es num with
        | true => rfl
        | false => rw [(noteB_iff s num).2 ⟨by omega, by omega, hm, by omega⟩] at hb; cases hb
      rw [c3] at HHA
      clear c3
      go_enter Tryd.func21, Tryd.ntmps21
      go_wp2_with (first | (go_at_call 48; refine HOL.out.mono ?_; rintro e w' ⟨rfl, rfl⟩) | (go_at_call 47; refine HHA.out.mono ?_; rintro e w' ⟨rfl, q, rfl⟩))
      go_ret
      exact ⟨rfl, _, rfl⟩

theorem grown_trans {a b c : World} {p : Nat} (h : a.grownBy b (some p)) (k : b.grownBy c (some p)) : a.grownBy c (some p) :=
  ⟨k.os.trans h.os, k.tape.trans h.tape, k.output.trans h.output, Nat.le_trans h.size k.size, fun g hg hne => (k.block g (Nat.lt_of_lt_of_le hg h.size) hne).trans (h.block g hg hne)⟩
theorem grown_cell {w : World} {p o : Nat} (u : Value) : w.grownBy (w.setCell ⟨p, o, none⟩ u) (some p) :=
  ⟨rfl, rfl, rfl, by simp [World.setCell], fun k hk hne => Below.heap_setCell _ _ _ _ (fun e => hne (by simp [e]))⟩
theorem grown_draw {a b : World} {p : Nat} (h : a.grownBy b (some p)) : a.grownBy b.drew (some p) := ⟨h.os, h.tape, h.output, h.size, h.block⟩
theorem grown_drewN {a b : World} {p : Nat} (h : a.grownBy b (some p)) (q : Nat) : a.grownBy (b.drewN q) (some p) := ⟨h.os, h.tape, h.output, h.size, h.block⟩

set_option maxRecDepth 100000 in
set_option maxHeartbeats 2000000 in
theorem note_yes (s : St) (hw : Win s) (p : Nat) (num : Int) (el : Bool) (w : World) (h : SeenIn w p s) (hb : noteB s num = true) :
    Calls Tryd.prog 21 #[.pointer (some ⟨p, 0, none⟩), .int .i64 num, .bool el] w fun e w' => e = .returned (.bool true) ∧ SeenIn w' p (noteS s num el) ∧ w.grownBy w' (some p) := by
  have hlo := hw.lo
  have hhi := hw.hi
  obtain ⟨b0, b1, b2, b3⟩ := (noteB_iff s num).1 hb
  have HLN := Lib.hid hw.len
  have HLT := Lib.hid (turn_len s.es num (num + 1) true)
  have HOL := Lib.hid (oldest_any p s.nw w h.cells.2.1 hlo (by omega))
  have HHA : Hid (Calls Tryd.prog 47 #[.pointer (some ⟨p, 0, none⟩), .int .i64 num] w fun e w' => e = .returned (.bool false) ∧ ∃ q, w' = w.drewN q) := by
    obtain ⟨v, h⟩ := h
    obtain ⟨A, c, hat, _⟩ := h.at (by have := HLN.out; omega)
    have := has_any s.es w.heap.size p 0 A c num w hat
    rwa [b2] at this
  have HS : Hid (noteS s num el = ⟨turn (turn s.es num (num + 1) true) 0 (max s.nw num - 64) false, s.ow || el, max s.nw num⟩) := by show _ = _; unfold noteS; rw [if_pos hb]
  obtain ⟨S', hS'⟩ : ∃ x, Hid (noteS s num el = x) := ⟨_, rfl⟩
  rw [hS'.out] at HS ⊢
  have HC : Hid (turn (turn s.es num (num + 1) true) 0 (max s.nw num - 64) false = turn (turn s.es num (num + 1) true) 0 (max (max s.nw num - 64) 0) false) := by
    show _ = _
    have e : clamp (max (max s.nw num - 64) 0) = clamp (max s.nw num - 64) := by unfold clamp; omega
    unfold turn
    rw [e]
  have HI := Lib.hid h
  have c1 : ¬ num < max (s.nw - 64) 0 := by omega
  have c2 : ¬ 4611686018427387903 < num := by omega
  obtain ⟨ow, how⟩ : ∃ x, Hid (s.ow = x) := ⟨_, rfl⟩
  obtain ⟨nw, hnw⟩ : ∃ x, Hid (s.nw = x) := ⟨_, rfl⟩
  rw [how.out] at HS
  rw [hnw.out] at HS HC HOL c1 hlo hhi
  clear h hb b2 b3 hw
  have hmx : max (nw + 1) (num + 1) = max nw num + 1 := by omega
  have HMX := Lib.hid hmx
  clear hmx
  go_enter Tryd.func21, Tryd.ntmps21
  go_wp2_with fail
  refine HOL.out.mono ?_; rintro e w' ⟨rfl, hww⟩; obtain rfl : w = w' := hww.symm; clear hww
  go_wp2_with fail
  refine HHA.out.mono ?_; rintro e wd ⟨rfl, q, hwd⟩
  have HId : Hid (SeenIn wd p s) := by rw [hwd]; exact HI.out
  have HGd : Hid (w.grownBy wd (some p)) := by rw [hwd]; exact grown_drewN (below_grown (Below.refl _ _) p) q
  clear hwd HI HHA HOL
  have HAD : Hid (Calls Tryd.prog 49 #[.pointer (some ⟨p, 0, none⟩), .int .i64 num, .int .i64 (num + 1)] wd fun e w' => e = .returned (.tuple #[]) ∧ SeenIn w' p ⟨turn s.es num (num + 1) true, ow, nw⟩ ∧ wd.grownBy w' (some p)) := by
    obtain ⟨v, h⟩ := HId.out
    rw [how.out, hnw.out] at h
    refine (add_any s.es p 0 _ _ num (num + 1) wd h (by have := HLN.out; omega)).mono ?_
    rintro e w' ⟨rfl, ⟨v', h1⟩, h2⟩
    exact ⟨rfl, ⟨v', h1⟩, h2⟩
  go_wp2_with fail
  refine HAD.out.mono ?_
  rintro e wa ⟨rfl, h1, h2⟩
  have HIa := Lib.hid h1
  have HGa := Lib.hid (grown_trans HGd.out h2)
  obtain ⟨k1, k2, kf⟩ := h1.cells
  have kf1 := kf 1
  have kf2 := kf 2
  clear h1 h2 kf HAD HGd HId
  cases ow
  all_goals
    go_wp2_with fail
    refine still_tail 5 (by kernel_rfl) (by kernel_rfl) ?_
    intro wz hwz
    have HZ : Hid (SeenIn wz p ⟨turn s.es num (num + 1) true, S'.ow, max nw num⟩) := by
      rw [hwz, HS.out]
      obtain ⟨v, h⟩ := HIa.out
      exact ⟨v, (h.set (j := 1) (by decide) _).set (j := 2) (by decide) _⟩
    have HG : Hid (w.grownBy wz (some p)) := by
      rw [hwz]
      exact grown_draw (grown_trans HGa.out (grown_trans (grown_cell _) (grown_cell _)))
    have HO := Lib.hid (oldest_any p (max nw num) wz HZ.out.cells.2.1 (by omega) (by omega))
    have HDR : Hid (Calls Tryd.prog 50 #[.pointer (some ⟨p, 0, none⟩), .int .i64 0, .int .i64 (max (max nw num - 64) 0)] wz fun e w' => e = .returned (.tuple #[]) ∧ SeenIn w' p S' ∧ w.grownBy w' (some p)) := by
      obtain ⟨v, h⟩ := HZ.out
      refine (drop_any _ p 0 _ _ 0 (max (max nw num - 64) 0) wz h (by have := HLN.out; have := HLT.out; show ((turn s.es num (num + 1) true).length + 2) * 8 ≤ _; omega)).mono ?_
      rintro e w' ⟨rfl, ⟨v', h1⟩, h2⟩
      refine ⟨rfl, ⟨v', ?_⟩, grown_trans HG.out h2⟩
      rw [← HC.out] at h1
      rw [HS.out]
      rw [HS.out] at h1
      exact h1
    clear hwz HZ HG HIa HGa k1 k2 kf1 kf2
    simp only [List.take_succ_cons, List.take_zero, List.drop_succ_cons, List.drop_zero]
    still_step
    still_step
    still_step
    still_step
    still_call HO.out
    refine wpStill_nil ?_
    go_wp2_with fail
    refine HDR.out.mono ?_
    rintro e wy ⟨rfl, h1, h2⟩
    have H1 := Lib.hid h1
    have H2 := Lib.hid h2
    clear h1 h2 HDR HO
    go_wp2_with fail
    go_ret
    exact ⟨rfl, H1.out, H2.out⟩

theorem note_any (s : St) (hw : Win s) (p : Nat) (num : Int) (el : Bool) (w : World) (h : SeenIn w p s) :
    Calls Tryd.prog 21 #[.pointer (some ⟨p, 0, none⟩), .int .i64 num, .bool el] w fun e w' => e = .returned (.bool (noteB s num)) ∧ SeenIn w' p (noteS s num el) ∧ w.grownBy w' (some p) := by
  cases hb : noteB s num with
  | true => exact note_yes s hw p num el w h hb
  | false =>
    refine (note_no s hw p num el w h hb).mono ?_
    rintro e w' ⟨rfl, q, rfl⟩
    refine ⟨rfl, ?_, grown_drewN (below_grown (Below.refl _ _) p) q⟩
    unfold noteS
    rw [hb]
    exact h
end Go.Proofs.YtoglpjgmnojdjaaDoor.Sp
