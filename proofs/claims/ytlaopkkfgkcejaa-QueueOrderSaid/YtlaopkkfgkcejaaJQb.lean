/- The queue's Len, First: contracts; clear of a row of items. Conditions: as each theorem lists them. -/
import Derived.Test.YtlaopkkfgkcejaaJQa
set_option linter.unusedSimpArgs false
set_option linter.unusedVariables false

namespace Go.Proofs.Ytlaopkkfgkcejaa.Qu
open Go Go.RowKit Go.Proofs.Ytlaopkkfgkcejaa

theorem len_any {w : World} {p lo m : Nat} {ks : List It} (h : QAt w p lo ks m) (hm : m ≤ 32) :
    Calls Try.prog 8 #[.pointer (some ⟨p, 0, none⟩)] w fun e w' => e = .returned (.int .i64 (m : Int)) ∧ w' = w := by
  have c := h.num
  clear h
  go_enter Try.func8, Try.ntmps8
  go_wp2
  go_ret
  exact ⟨rfl, rfl⟩

set_option maxRecDepth 100000 in
theorem first_none {w : World} {p lo : Nat} (h : QIn w p lo []) :
    Calls Try.prog 11 #[.pointer (some ⟨p, 0, none⟩)] w fun e w' => e = .returned (.tuple #[.agg #[.int .i64 0, .slice none 0 0], .bool false]) ∧ Below w.heap.size w w' := by
  have c : w.cell? ⟨p, 64, none⟩ = some (.int .i64 0) := h.num
  have hp := h.lt
  have hpn : p ≠ w.heap.size := by omega
  clear h
  go_enter Try.func11, Try.ntmps11
  go_wp2_with fail
  refine ret_it2 (g := w.heap.size) (k := 0) (A := none) (n := 0) (c := 0) rfl rfl rfl ?_ ?_ ⟨rfl, ?_⟩
  all_goals try (simp; done)
  exact (Below.refl _ _).alloc (Nat.le_refl _) _

set_option maxRecDepth 100000 in
set_option maxHeartbeats 4000000 in
theorem first_some {w : World} {p lo : Nat} {q : It} {ks : List It} (h : QIn w p lo (q :: ks)) :
    Calls Try.prog 11 #[.pointer (some ⟨p, 0, none⟩)] w fun e w' => ∃ q', e = .returned (.tuple #[.agg #[.int .i64 q'.k, .slice q'.A q'.n q'.c], .bool true]) ∧ ItNew w w' (dat q) q' := by
  have c : w.cell? ⟨p, 64, none⟩ = some (.int .i64 ((ks.length + 1 : Nat) : Int)) := h.num
  have hp := h.lt
  have hle : ks.length + 1 ≤ 32 := h.le
  have hpn : p ≠ w.heap.size := by omega
  obtain ⟨c0, c1⟩ := h.first
  obtain ⟨hit, hn0, hn1⟩ := h.items q (List.mem_cons_self ..)
  have hb : Below w.heap.size w (w.alloc (.cells #[.int .i64 0, .slice none 0 0] 24)) := (Below.refl _ _).alloc (Nat.le_refl _) _
  have HC := Lib.hid (copied_any q lo _ (hit.below hb) (by omega))
  obtain ⟨m, hm⟩ : ∃ m : Int, ((ks.length + 1 : Nat) : Int) = m := ⟨_, rfl⟩
  have hm0 : m ≠ 0 := by omega
  rw [hm] at c
  obtain ⟨k, A, n, cc, bs⟩ := q
  simp only at c0 c1 HC
  clear h hit hn0 hn1 hm hle hb
  go_enter Try.func11, Try.ntmps11
  go_wp2_with (go_at_call 18; refine HC.out.mono ?_; rintro e w5 ⟨q5, rfl, hd5, hi5, hb5⟩; have d0 : w5.cell? ⟨w.heap.size, 0, none⟩ = some (.int .i64 0) := (hb5.cell (p := ⟨w.heap.size, 0, none⟩) (by simp)).trans (by simp); have d1 : w5.cell? ⟨w.heap.size, 1, none⟩ = some (.slice none 0 0) := (hb5.cell (p := ⟨w.heap.size, 1, none⟩) (by simp)).trans (by simp); have e0 : w5.frozen? ⟨w.heap.size, 0, none⟩ = false := (hb5.frozen (p := ⟨w.heap.size, 0, none⟩) (by simp)).trans (by simp); have e1 : w5.frozen? ⟨w.heap.size, 1, none⟩ = false := (hb5.frozen (p := ⟨w.heap.size, 1, none⟩) (by simp)).trans (by simp); have HD5 := Lib.hid hd5; have HI5 := Lib.hid hi5; have HB5 := Lib.hid hb5; clear hd5 hi5 hb5)
  have hne : ∀ (v : Value) (j : Nat) (W : World) (b : Nat), b ≠ w.heap.size → (W.setCell ⟨w.heap.size, j, none⟩ v).heap[b]? = W.heap[b]? := fun v j W b hb => Below.heap_setCell _ _ _ _ (fun e => hb e)
  have hi5 := HI5.out
  simp only [World.size_alloc] at hi5
  refine ret_it2 (g := w.heap.size) (k := q5.k) (A := q5.A) (n := q5.n) (c := q5.c) rfl rfl rfl ?_ ?_ ⟨q5, rfl, HD5.out, (hi5.same (by simp [World.setCell]) (fun b h1 h2 => ?_)).less (by omega), ?_⟩
  · exact (World.cell?_setCell_other _ _ _ _ (by simp)).trans (World.cell?_setCell_same _ _ _ d0)
  · exact World.cell?_setCell_same _ _ _ ((World.cell?_setCell_other _ _ _ _ (by simp)).trans d1)
  · exact (hne _ _ _ _ (by omega)).trans (hne _ _ _ _ (by omega))
  · have hb : Below w.heap.size w (w.alloc (.cells #[.int .i64 0, .slice none 0 0] 24)) := (Below.refl _ _).alloc (Nat.le_refl _) _
    exact ((hb.trans (HB5.out.mono (by simp))).setCell (p := ⟨w.heap.size, 0, none⟩) (Nat.le_refl _) _).setCell (p := ⟨w.heap.size, 1, none⟩) (Nat.le_refl _) _

/-- clear(s), s a slice of items: its cells hold something; nothing else turns. -/
theorem run_clear_its (w : World) (b o n c : Nat) (hc : ∀ j, j < n * 2 → (w.cell? ⟨b, o + j, none⟩).isSome = true) (hf : ∀ j, j < n * 2 → w.frozen? ⟨b, o + j, none⟩ = false) :
    ∃ vs : List Value, vs.length = n * 2 ∧ ∀ ty, (Builtin.clear_ #[29] ty #[.slice (some ⟨b, o, none⟩) n c]).run Try.prog w = .ok (.tuple #[]) (w.setCells b o vs) := by
  obtain ⟨i0, hi, hz0, hz1, hz2⟩ := info_parts infoIt
  rcases Nat.eq_zero_or_pos n with h0 | h0
  · subst h0
    exact ⟨[], rfl, fun ty => by simp [Builtin.clear_, run_underlying Try.underlying29, World.setCells]⟩
  · obtain ⟨vs, hvs⟩ : ∃ vs, vs = (Builtin.zeroCells (Value.agg #[.int .i64 0, .slice none 0 0]).cells n).toList := ⟨_, rfl⟩
    have hl : vs.length = n * 2 := by rw [hvs]; simp [Builtin.zeroCells, Value.cells]
    have h1 : ∀ u ∈ vs, u.oneCell' = true := by
      intro u hu
      rw [hvs] at hu
      simp only [Builtin.zeroCells, Value.cells, Array.toList_map, List.mem_map] at hu
      obtain ⟨i, _, rfl⟩ := hu
      rcases Nat.mod_two_eq_zero_or_one i with h | h <;> simp [h] <;> rfl
    have hst := run_storeCells_cells (P := Try.prog) b o vs 0 w (by simpa [hl] using hc) (by simpa [hl] using hf) h1
    simp only [Nat.add_zero] at hst
    obtain ⟨m, rfl⟩ : ∃ m, n = m + 1 := ⟨n - 1, by omega⟩
    refine ⟨vs, hl, fun ty => ?_⟩
    simp [Builtin.clear_, run_underlying Try.underlying29, zeroValue, typeInfo, hi, hz0, ← hvs, hst]
end Go.Proofs.Ytlaopkkfgkcejaa.Qu
