/- The program's Credit and Grant: contracts. Conditions: as each theorem lists them. -/
import Derived.Test.YtppbhjjkccogkaaJKa
import Derived.Deep.RegionHeld
set_option linter.unusedSimpArgs false
set_option linter.unusedVariables false

namespace Go.Proofs.Ytppbhjjkccogkaa.Cr
open Go Go.RowKit Go.Proofs.Ytppbhjjkccogkaa Go.Proofs.Ytppbhjjkccogkaa.Cg

theorem still_tail {P : Program} {id : Nat} {Q : Exit → Act → World → Prop} {a : Act} {w : World} {l : List Oper} (n : Nat) (hm : P.follows .mixedOrders = true) (hB : Region.lexTailB .any l.toArray n = true)
    (h : ∀ w' : World, w' = w.drew → wpStill P l.toArray w' (fun a' => wpList P l.toArray Q (l.drop n) a' w') (l.take n) a) : (Code.region id l.toArray true).wp P Q a w :=
  wp_region_still_tail n hm hB (h _ rfl)

section
variable {w : World} {p o : Nat} {T : TypeId} {cur : Array Value} {l u rm rd tl : Int}

set_option maxRecDepth 100000 in
theorem left_any (h : CredIn w p o T cur l u) (hl : 0 ≤ l ∧ l ≤ 9223372036854775807) (hu : 0 ≤ u ∧ u ≤ 9223372036854775807) :
    Calls Try.prog 33 #[.pointer (some ⟨p, o, none⟩)] w fun e w' => e = .returned (.int .i64 (leftF l u)) ∧ ∃ q, w' = w.drewN q := by
  obtain ⟨hc0, hc1, hf⟩ := h.cell
  clear h hf
  obtain ⟨hl0, hl1⟩ := hl
  obtain ⟨hu0, hu1⟩ := hu
  by_cases hc : l ≤ u
  · have e : leftF l u = 0 := by unfold leftF; omega
    rw [e]
    clear e
    go_enter Try.func33, Try.ntmps33
    go_wp2_with fail
    go_quiet (fail)
    go_wp2_with fail
    go_ret
    exact ⟨rfl, _, rfl⟩
  · obtain ⟨d, hd⟩ : ∃ d : Nat, l - u = d := ⟨(l - u).toNat, by omega⟩
    have e : leftF l u = d := by unfold leftF; omega
    rw [e]
    have HG := Lib.hid (fun W => gap_any W u l d hd hu0 hl1)
    have hd0 : (d : Int) ≤ 9223372036854775807 := by omega
    clear e hd
    go_enter Try.func33, Try.ntmps33
    go_wp2_with fail
    go_quiet (fail)
    obtain ⟨w1, hw1⟩ : ∃ x, w.drewN nq = x := ⟨_, rfl⟩
    replace hc0 : w1.cell? ⟨p, o, none⟩ = some (.int .i64 l) := by rw [← hw1]; exact hc0
    replace hc1 : w1.cell? ⟨p, o + 1, none⟩ = some (.int .i64 u) := by rw [← hw1]; exact hc1
    rw [hw1]
    have HW := Lib.hid hw1
    clear hw1
    go_wp2_with fail
    go_quiet ((go_at_call 62; exact Calls.quiet_of_same (HG.out _)))
    go_wp2_with fail
    go_ret
    exact ⟨rfl, _, by rw [← HW.out, World.drewN_drewN]⟩

set_option maxRecDepth 100000 in
theorem use_any (h : CredIn w p o T cur l u) (hl : 0 ≤ l ∧ l ≤ 9223372036854775807) (hu : 0 ≤ u ∧ u ≤ 9223372036854775807) (n : Int) :
    Calls Try.prog 45 #[.pointer (some ⟨p, o, none⟩), .int .i64 n] w fun e w' => e = .returned (.bool (useB l u n)) ∧ CredTo w w' p o T cur l (if useB l u n = true then u + n else u) := by
  obtain ⟨hc0, hc1, hf⟩ := h.cell
  have hf1 := hf (o + 1)
  have H := Lib.hid h
  have HL := Lib.hid (left_any h hl hu)
  have hle : leftF l u ≤ 9223372036854775807 ∧ 0 ≤ leftF l u ∧ (0 < leftF l u → u + leftF l u = l) := by unfold leftF; omega
  have HU : Hid (useB l u n = decide (0 ≤ n ∧ n ≤ leftF l u)) := rfl
  obtain ⟨f, hf⟩ : ∃ f, leftF l u = f := ⟨_, rfl⟩
  rw [hf] at HL HU hle
  obtain ⟨hf0, hf2, hf3⟩ := hle
  obtain ⟨hu0, hu1⟩ := hu
  obtain ⟨hl0, hl1⟩ := hl
  clear h hf
  by_cases hn : n < 0
  · have e : useB l u n = false := by rw [HU.out]; simp; omega
    rw [e]
    clear e hf0 hf2 hf3 hf1 HL HU
    go_enter Try.func45, Try.ntmps45
    go_wp2_with fail
    go_ret
    exact ⟨rfl, H.out.here 0⟩
  · by_cases hg : f < n
    · have e : useB l u n = false := by rw [HU.out]; simp; omega
      rw [e]
      clear e hf3 hf1 HU
      go_enter Try.func45, Try.ntmps45
      go_wp2_with fail
      refine HL.out.mono ?_; rintro e w1 ⟨rfl, q, rfl⟩
      go_wp2_with fail
      go_ret
      exact ⟨rfl, H.out.here _⟩
    · have e : useB l u n = true := by rw [HU.out]; simp; omega
      rw [e]
      have hs : u + n ≤ 9223372036854775807 := by omega
      have hs0 : 0 ≤ u + n := by omega
      have HF := Lib.hid (fun q => CredIn.set1 H.out (u + n) q)
      obtain ⟨s, hsn⟩ : ∃ s, u + n = s := ⟨_, rfl⟩
      have hw : IntKind.i64.wrap (u + n) = s := by rw [hsn]; exact IntWalk.i64_in _ (by omega)
      have HE := Lib.hid hsn
      clear e hf3 HU
      go_enter Try.func45, Try.ntmps45
      go_wp2_with fail
      refine HL.out.mono ?_; rintro e w1 ⟨rfl, q, rfl⟩
      go_wp2_with fail
      go_ret
      have := HF.out q
      rw [HE.out] at this
      exact ⟨rfl, this⟩

set_option maxRecDepth 100000 in
theorem raise_any (h : CredIn w p o T cur l u) (n : Int) :
    Calls Try.prog 16 #[.pointer (some ⟨p, o, none⟩), .int .i64 n] w fun e w' => e = .returned (.bool (raiseB l n)) ∧ CredTo w w' p o T cur (if raiseB l n = true then n else l) u := by
  obtain ⟨hc0, _, hf⟩ := h.cell
  have hf0 := hf o
  have H := Lib.hid h
  have HU : Hid (raiseB l n = decide (l < n ∧ n ≤ 4611686018427387903)) := rfl
  clear h hf
  by_cases hn : n ≤ l
  · have e : raiseB l n = false := by rw [HU.out]; simp; omega
    rw [e]
    clear e HU
    go_enter Try.func16, Try.ntmps16
    go_wp2_with fail
    go_ret
    exact ⟨rfl, H.out.here 0⟩
  · by_cases hg : 4611686018427387903 < n
    · have e : raiseB l n = false := by rw [HU.out]; simp; omega
      rw [e]
      clear e HU
      go_enter Try.func16, Try.ntmps16
      go_wp2_with fail
      go_ret
      exact ⟨rfl, H.out.here 0⟩
    · have e : raiseB l n = true := by rw [HU.out]; simp; omega
      rw [e]
      clear e HU
      go_enter Try.func16, Try.ntmps16
      go_wp2_with fail
      go_ret
      exact ⟨rfl, H.out.set0 n 0⟩

end
end Go.Proofs.Ytppbhjjkccogkaa.Cr
