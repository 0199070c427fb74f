/- slices.Clone of frames, of bytes, of runs: contracts. Conditions: as each theorem lists them. -/
import Derived.Test.YtebfjphmlggacaaJLh
import Derived.Lib.SliceRun
set_option linter.unusedSimpArgs false
set_option linter.unusedVariables false

namespace Go.Proofs.Ytebfjphmlggacaa.Ld
open Go Go.RowKit Go.Proofs.Ytebfjphmlggacaa Go.Proofs.Ytebfjphmlggacaa.Sp

theorem infoFr : (Try.prog.info? 28).map (fun i => (i.zero, i.size, i.bytes)) = some (some (.agg #[.int .i64 0, .int .i64 0, .int .i64 0, .int .i64 0, .int .i64 0, .int .i64 0, .bool false, .slice none 0 0, .slice none 0 0]), 9, 104) := by kernel_rfl
theorem infoU8 : (Try.prog.info? 5).map (fun i => (i.zero, i.size, i.bytes)) = some (some (.int .u8 0), 1, 1) := by kernel_rfl

set_option maxRecDepth 100000 in
theorem clone_frames (n c : Nat) (A : Option Addr) (xs : List Value) (w : World) (hx : Rd w w.heap.size A (n * 9) xs) (h1 : ones xs) (hn : n * 104 ≤ 140737488355328) :
    Calls Try.prog 56 #[.slice A n c] w fun e w' => ∃ v', e = .returned v' ∧ w'.ownsRow w.heap.size 28 9 v' n xs ∧ Below w.heap.size w w' := by
  obtain ⟨i0, hi, hz0, hz1, hz2⟩ := info_parts infoFr
  have HI := Lib.hid (And.intro hi (And.intro hz0 (And.intro hz1 hz2)))
  have heq := fun (W : World) => Lib.run_eql_slice_nil (P := Try.prog) W 31 28 A n c 0 0 Try.underlying31
  have HX := Lib.hid hx
  have H1 := Lib.hid h1
  have HN := Lib.hid hn
  clear hi hz0 hz1 hz2 hx h1 hn
  cases A with
  | none =>
    have h0 : n = 0 := by
      rcases Nat.eq_zero_or_pos n with h | h
      · exact h
      · obtain ⟨_, _, e, _⟩ := HX.out.2 (by omega)
        cases e
    subst h0
    have hxs : xs = [] := List.eq_nil_of_length_eq_zero (by have := HX.out.1; omega)
    subst hxs
    go_enter Try.func56, Try.ntmps56
    go_wp2
    go_ret
    exact ⟨_, rfl, own_nil _ _ _ _, Below.refl _ _⟩
  | some a =>
    have hd2 : Hid (0 + n ≤ maxLen) := by have := HN.out; show _ ≤ _; unfold maxLen; omega
    have hd3 : Hid ((0 + n) * 104 ≤ 140737488355328) := by rw [Nat.zero_add]; exact HN.out
    have hb : Below w.heap.size w (w.alloc (.cells #[] 28)) := (Below.refl _ _).alloc (Nat.le_refl _) _
    have hd4 : Hid (w.heap.size ≤ (w.alloc (.cells #[] 28)).heap.size) := hb.size
    have hd1 : Hid (Rd (w.alloc (.cells #[] 28)) w.heap.size (some a) (n * 9) xs) := HX.out.below hb (Nat.le_refl _)
    have hd5 : Hid ((w.alloc (.cells #[] 28)).ownsRow w.heap.size 28 9 (.slice (some ⟨w.heap.size, 0, none⟩) 0 0) 0 []) := own_new w #[] _ 9 0 w.heap.size w.heap.size rfl rfl (by unfold maxLen; omega) (Nat.le_refl _)
    have HB := Lib.hid hb
    clear hb
    go_enter Try.func56, Try.ntmps56
    go_wp2_with (at_builtin; refine wpList_app _ rfl (.tmp 5) (.tmp 6) 31 rfl w.heap.size 28 i0 (.agg #[.int .i64 0, .int .i64 0, .int .i64 0, .int .i64 0, .int .i64 0, .int .i64 0, .bool false, .slice none 0 0, .slice none 0 0]) 9 104 Try.underlying31 HI.out.1 HI.out.2.1 HI.out.2.2.1 HI.out.2.2.2 rfl (by decide) (.slice (some ⟨w.heap.size, 0, none⟩) 0 0) 0 [] rfl hd5.out w.heap.size (some a) n c xs rfl hd1.out H1.out hd2.out hd3.out hd4.out ?_)
    intro v5 w5 ho5 hg5
    have HF : Hid (w5.ownsRow w.heap.size 28 9 v5 n xs ∧ Below w.heap.size w w5) := by
      exact ⟨by simpa using ho5, HB.out.grown hg5 hd4.out (fun g hg => by simp [Value.ownBlock] at hg; omega)⟩
    clear ho5 hg5
    obtain ⟨A5, c5, e5, _⟩ := own_form HF.out.1
    subst e5
    go_wp2_with fail
    go_ret
    exact ⟨_, rfl, HF.out⟩

set_option maxRecDepth 100000 in
theorem clone_bytes (n c : Nat) (A : Option Addr) (xs : List Value) (w : World) (hx : Rd w w.heap.size A (n * 1) xs) (h1 : ones xs) (hn : n * 1 ≤ 140737488355328) :
    Calls Try.prog 57 #[.slice A n c] w fun e w' => ∃ v', e = .returned v' ∧ w'.ownsRow w.heap.size 5 1 v' n xs ∧ Below w.heap.size w w' := by
  obtain ⟨i0, hi, hz0, hz1, hz2⟩ := info_parts infoU8
  have HI := Lib.hid (And.intro hi (And.intro hz0 (And.intro hz1 hz2)))
  have heq := fun (W : World) => Lib.run_eql_slice_nil (P := Try.prog) W 25 5 A n c 0 0 Try.underlying25
  have HX := Lib.hid hx
  have H1 := Lib.hid h1
  have HN := Lib.hid hn
  clear hi hz0 hz1 hz2 hx h1 hn
  cases A with
  | none =>
    have h0 : n = 0 := by
      rcases Nat.eq_zero_or_pos n with h | h
      · exact h
      · obtain ⟨_, _, e, _⟩ := HX.out.2 (by omega)
        cases e
    subst h0
    have hxs : xs = [] := List.eq_nil_of_length_eq_zero (by have := HX.out.1; omega)
    subst hxs
    go_enter Try.func57, Try.ntmps57
    go_wp2
    go_ret
    exact ⟨_, rfl, own_nil _ _ _ _, Below.refl _ _⟩
  | some a =>
    have hd2 : Hid (0 + n ≤ maxLen) := by have := HN.out; show _ ≤ _; unfold maxLen; omega
    have hd3 : Hid ((0 + n) * 1 ≤ 140737488355328) := by rw [Nat.zero_add]; exact HN.out
    have hb : Below w.heap.size w (w.alloc (.cells #[] 5)) := (Below.refl _ _).alloc (Nat.le_refl _) _
    have hd4 : Hid (w.heap.size ≤ (w.alloc (.cells #[] 5)).heap.size) := hb.size
    have hd1 : Hid (Rd (w.alloc (.cells #[] 5)) w.heap.size (some a) (n * 1) xs) := HX.out.below hb (Nat.le_refl _)
    have hd5 : Hid ((w.alloc (.cells #[] 5)).ownsRow w.heap.size 5 1 (.slice (some ⟨w.heap.size, 0, none⟩) 0 0) 0 []) := own_new w #[] _ 1 0 w.heap.size w.heap.size rfl rfl (by unfold maxLen; omega) (Nat.le_refl _)
    have HB := Lib.hid hb
    clear hb
    go_enter Try.func57, Try.ntmps57
    go_wp2_with (at_builtin; refine wpList_app _ rfl (.tmp 5) (.tmp 6) 25 rfl w.heap.size 5 i0 (.int .u8 0) 1 1 Try.underlying25 HI.out.1 HI.out.2.1 HI.out.2.2.1 HI.out.2.2.2 rfl (by decide) (.slice (some ⟨w.heap.size, 0, none⟩) 0 0) 0 [] rfl hd5.out w.heap.size (some a) n c xs rfl hd1.out H1.out hd2.out hd3.out hd4.out ?_)
    intro v5 w5 ho5 hg5
    have HF : Hid (w5.ownsRow w.heap.size 5 1 v5 n xs ∧ Below w.heap.size w w5) := by
      exact ⟨by simpa using ho5, HB.out.grown hg5 hd4.out (fun g hg => by simp [Value.ownBlock] at hg; omega)⟩
    clear ho5 hg5
    obtain ⟨A5, c5, e5, _⟩ := own_form HF.out.1
    subst e5
    go_wp2_with fail
    go_ret
    exact ⟨_, rfl, HF.out⟩

set_option maxRecDepth 100000 in
theorem clone_runs (n c : Nat) (A : Option Addr) (xs : List Value) (w : World) (hx : Rd w w.heap.size A (n * 2) xs) (h1 : ones xs) (hn : n * 16 ≤ 140737488355328) :
    Calls Try.prog 58 #[.slice A n c] w fun e w' => ∃ v', e = .returned v' ∧ w'.ownsRow w.heap.size 29 2 v' n xs ∧ Below w.heap.size w w' := by
  obtain ⟨i0, hi, hz0, hz1, hz2⟩ := info_parts infoP
  have HI := Lib.hid (And.intro hi (And.intro hz0 (And.intro hz1 hz2)))
  have heq := fun (W : World) => Lib.run_eql_slice_nil (P := Try.prog) W 26 29 A n c 0 0 Try.underlying26
  have HX := Lib.hid hx
  have H1 := Lib.hid h1
  have HN := Lib.hid hn
  clear hi hz0 hz1 hz2 hx h1 hn
  cases A with
  | none =>
    have h0 : n = 0 := by
      rcases Nat.eq_zero_or_pos n with h | h
      · exact h
      · obtain ⟨_, _, e, _⟩ := HX.out.2 (by omega)
        cases e
    subst h0
    have hxs : xs = [] := List.eq_nil_of_length_eq_zero (by have := HX.out.1; omega)
    subst hxs
    go_enter Try.func58, Try.ntmps58
    go_wp2
    go_ret
    exact ⟨_, rfl, own_nil _ _ _ _, Below.refl _ _⟩
  | some a =>
    have hd2 : Hid (0 + n ≤ maxLen) := by have := HN.out; show _ ≤ _; unfold maxLen; omega
    have hd3 : Hid ((0 + n) * 16 ≤ 140737488355328) := by rw [Nat.zero_add]; exact HN.out
    have hb : Below w.heap.size w (w.alloc (.cells #[] 29)) := (Below.refl _ _).alloc (Nat.le_refl _) _
    have hd4 : Hid (w.heap.size ≤ (w.alloc (.cells #[] 29)).heap.size) := hb.size
    have hd1 : Hid (Rd (w.alloc (.cells #[] 29)) w.heap.size (some a) (n * 2) xs) := HX.out.below hb (Nat.le_refl _)
    have hd5 : Hid ((w.alloc (.cells #[] 29)).ownsRow w.heap.size 29 2 (.slice (some ⟨w.heap.size, 0, none⟩) 0 0) 0 []) := own_new w #[] _ 2 0 w.heap.size w.heap.size rfl rfl (by unfold maxLen; omega) (Nat.le_refl _)
    have HB := Lib.hid hb
    clear hb
    go_enter Try.func58, Try.ntmps58
    go_wp2_with (at_builtin; refine wpList_app _ rfl (.tmp 5) (.tmp 6) 26 rfl w.heap.size 29 i0 (.agg #[.int .i64 0, .int .i64 0]) 2 16 Try.underlying26 HI.out.1 HI.out.2.1 HI.out.2.2.1 HI.out.2.2.2 rfl (by decide) (.slice (some ⟨w.heap.size, 0, none⟩) 0 0) 0 [] rfl hd5.out w.heap.size (some a) n c xs rfl hd1.out H1.out hd2.out hd3.out hd4.out ?_)
    intro v5 w5 ho5 hg5
    have HF : Hid (w5.ownsRow w.heap.size 29 2 v5 n xs ∧ Below w.heap.size w w5) := by
      exact ⟨by simpa using ho5, HB.out.grown hg5 hd4.out (fun g hg => by simp [Value.ownBlock] at hg; omega)⟩
    clear ho5 hg5
    obtain ⟨A5, c5, e5, _⟩ := own_form HF.out.1
    subst e5
    go_wp2_with fail
    go_ret
    exact ⟨_, rfl, HF.out⟩
end Go.Proofs.Ytebfjphmlggacaa.Ld
