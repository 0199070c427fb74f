/- Lay of package frame: a contract. Conditions: as the theorem lists them. Size of package frame: a contract. Conditions: as the theorem lists them. -/
import Derived.Test.YtppbhjjkccogkaaJP1
import Derived.Test.YtppbhjjkccogkaaJE1
set_option linter.unusedSimpArgs false
set_option linter.unusedVariables false

namespace Go.Proofs.Ytppbhjjkccogkaa
open Go Go.RowKit

def LayP (fs : List Fr) (w : World) (e : Ending) (w' : World) : Prop := ∃ A n c, e = .returned (.tuple #[.slice A n c, .int .i64 0]) ∧ (layF fs).length = n ∧ w'.ownsRow w.heap.size 5 1 (.slice A n c) n (bv (layF fs)) ∧ Below w.heap.size w w'

theorem layF_len {fs : List Fr} (h : ∀ f ∈ fs, OkF f) : (layF fs).length ≤ 312 * fs.length := by
  induction fs with
  | nil => simp [layF]
  | cons f fs ih =>
    have h1 := encF_len (h f (by simp))
    have h2 := ih (fun g hg => h g (by simp [hg]))
    unfold layF at h2 ⊢
    rw [List.flatMap_cons, List.length_append, List.length_cons]
    omega

/-- A frame in a value, as a call takes it. -/
theorem FrC.isFr {w : World} {f : Fr} {A1 A2 : Option Addr} {n1 c1 n2 c2 : Nat} (h : FrC w f (frC f (.slice A1 n1 c1) (.slice A2 n2 c2))) : IsFr w w.heap.size f A1 n1 c1 A2 n2 c2 := by
  obtain ⟨A, n, c, A', n', c', e, h1, h2, h3, h4⟩ := h
  simp only [frC, List.cons.injEq, Value.slice.injEq, true_and, and_true] at e
  obtain ⟨⟨rfl, rfl, rfl⟩, rfl, rfl, rfl⟩ := e
  obtain ⟨_, _, e1, g1, _, _, r1⟩ := own_form h3
  obtain ⟨_, _, e2, g2, _, _, r2⟩ := own_form h4
  simp only [Value.slice.injEq] at e1 e2
  obtain ⟨rfl, _, rfl⟩ := e1
  obtain ⟨rfl, _, rfl⟩ := e2
  exact ⟨h1, g1, by simpa using r1, h2, g2, r2⟩

def LayW (w wr : World) (fs : List Fr) (k : Nat) (v : Value) (m : Nat) : Prop := (layF (fs.take k)).length = m ∧ wr.ownsRow w.heap.size 5 1 v m (bv (layF (fs.take k))) ∧ Below w.heap.size w wr

end Go.Proofs.Ytppbhjjkccogkaa

namespace Go.Proofs.Ytppbhjjkccogkaa
open Go Go.RowKit

set_option maxRecDepth 100000 in
set_option maxHeartbeats 2000000 in
theorem size_ok_f (f : Fr) (A1 : Option Addr) (n1 c1 : Nat) (A2 : Option Addr) (n2 c2 : Nat) (w : World) (h : IsFr w w.heap.size f A1 n1 c1 A2 n2 c2) (hof : OkF f) :
    Calls Try.prog 36 #[.agg #[.int .i64 f.k, .int .i64 f.id, .int .i64 f.off, .int .i64 f.a, .int .i64 f.b, .int .i64 f.note, .bool f.fin, .slice A1 n1 c1, .slice A2 n2 c2]] w fun e w' => e = .returned (.int .i64 ((encF f).length : Int)) ∧ Below w.heap.size w w' := by
  have HC : Hid (∀ W, Below w.heap.size w W → IsFr W W.heap.size f A1 n1 c1 A2 n2 c2) := fun W hW => by
    obtain ⟨h1, h2, h3, h4, h5, h6⟩ := h.below hW (Nat.le_refl _)
    exact ⟨h1, h2, h3.more hW.size, h4, h5, h6.more hW.size⟩
  have HOF := Lib.hid hof
  obtain ⟨ms, hms8, hsps⟩ := hof.sps
  have hnn : ms = n2 := by have h1 := hsps.1; have h2 := h.2.2.2.1; omega
  subst hnn
  have hn1 : n1 ≤ 120 := by have h1 := h.1; have := hof.data.1; omega
  have hdl : Hid (f.data.length = n1) := h.1
  have HRI : Hid (∀ W, Below w.heap.size w W → Calls Try.prog 63 #[.agg #[.int .i64 f.k, .int .i64 f.id, .int .i64 f.off, .int .i64 f.a, .int .i64 f.b, .int .i64 f.note, .bool f.fin, .slice A1 n1 c1, .slice A2 ms c2]] W fun e w' => e = .returned (.bool true) ∧ Below W.heap.size W w') := fun W hW => by
    have := right_any f W.heap.size A1 n1 c1 A2 ms c2 W (HC.out W hW) (Nat.le_refl _) (by omega) (by omega)
    rw [right_ok HOF.out] at this
    exact this
  have HNU : Hid (∀ W, Below w.heap.size w W → Calls Try.prog 65 #[.agg #[.int .i64 f.k, .int .i64 f.id, .int .i64 f.off, .int .i64 f.a, .int .i64 f.b, .int .i64 f.note, .bool f.fin, .slice A1 n1 c1, .slice A2 ms c2]] W (NumsP f W)) := fun W hW => numbers_any f A1 n1 c1 A2 ms c2 W (HC.out W hW) hsps hms8 (by omega)
  clear h hof hsps
  go_enter Try.func36, Try.ntmps36
  go_wp2_with fail
  refine (HRI.out _ ((Below.refl _ _).alloc (Nat.le_refl _) _)).mono ?_
  rintro e w1 ⟨rfl, hb1⟩
  obtain ⟨g, hg⟩ : ∃ g, Hid (w.heap.size = g) := ⟨_, rfl⟩
  have HB1 : Hid (Below w.heap.size w w1) := ((Below.refl _ _).alloc (Nat.le_refl _) _).trans (hb1.mono (by simp))
  have HX1 : Hid (∀ j, w1.cell? ⟨g, j, none⟩ = (w.alloc (.cells #[.int .i64 f.k, .int .i64 f.id, .int .i64 f.off, .int .i64 f.a, .int .i64 f.b, .int .i64 f.note, .bool f.fin, .slice A1 n1 c1, .slice A2 ms c2] 30)).cell? ⟨w.heap.size, j, none⟩) := fun j => by rw [← hg.out]; exact hb1.cell (p := ⟨w.heap.size, j, none⟩) (by simp)
  have hgl : Hid (g < w1.heap.size) := by have := hb1.size; simp at this; have := hg.out; show _ < _; omega
  have HS : Hid (∀ W', Below w1.heap.size w1 W' → W'.cell? ⟨g, 0, none⟩ = some (.int .i64 f.k) ∧ W'.cell? ⟨g, 1, none⟩ = some (.int .i64 f.id) ∧ W'.cell? ⟨g, 2, none⟩ = some (.int .i64 f.off) ∧ W'.cell? ⟨g, 3, none⟩ = some (.int .i64 f.a) ∧ W'.cell? ⟨g, 4, none⟩ = some (.int .i64 f.b) ∧ W'.cell? ⟨g, 5, none⟩ = some (.int .i64 f.note) ∧ W'.cell? ⟨g, 6, none⟩ = some (.bool f.fin) ∧ W'.cell? ⟨g, 7, none⟩ = some (.slice A1 n1 c1) ∧ W'.cell? ⟨g, 8, none⟩ = some (.slice A2 ms c2)) := fun W hW => by
    refine ⟨?_, ?_, ?_, ?_, ?_, ?_, ?_, ?_, ?_⟩
    all_goals (refine (hW.cell (p := ⟨g, _, none⟩) hgl.out).trans ?_; rw [HX1.out]; simp [go_sem])
  have HD : Hid (Below w1.heap.size w1 w1.drew) := ⟨rfl, rfl, rfl, Nat.le_refl _, fun _ _ => rfl⟩
  clear hb1
  rw [hg.out]
  have hcs := HS.out w1 (Below.refl _ _)
  obtain ⟨c0_, c1_, c2_, c3_, c4_, c5_, c6_, c7_, c8_⟩ := hcs
  go_wp2_with fail
  refine wp_region_held_drew (S := fun W' => W'.cell? ⟨g, 0, none⟩ = some (.int .i64 f.k) ∧ W'.cell? ⟨g, 1, none⟩ = some (.int .i64 f.id) ∧ W'.cell? ⟨g, 2, none⟩ = some (.int .i64 f.off) ∧ W'.cell? ⟨g, 3, none⟩ = some (.int .i64 f.a) ∧ W'.cell? ⟨g, 4, none⟩ = some (.int .i64 f.b) ∧ W'.cell? ⟨g, 5, none⟩ = some (.int .i64 f.note) ∧ W'.cell? ⟨g, 6, none⟩ = some (.bool f.fin) ∧ W'.cell? ⟨g, 7, none⟩ = some (.slice A1 n1 c1) ∧ W'.cell? ⟨g, 8, none⟩ = some (.slice A2 ms c2)) (by kernel_rfl) ?_ (fun hHeld => ?_)
  · exact HS.out _ HD.out
  refine wpAnyH_take (i := 0) (v := ?_) rfl (by kernel_rfl) (by kernel_rfl) (by kernel_rfl) (fun _ _ _ h => h) (Or.inl ⟨by rfl, ?_⟩) (by assumption) ?_
  rotate_left
  · intro w hSw; (try dsimp only at hSw); go_simp; try with_reducible rfl
  go_simp
  refine wpAnyH_take (i := 3) (v := ?_) rfl (by kernel_rfl) (by kernel_rfl) (by kernel_rfl) (fun _ _ _ h => h) (Or.inl ⟨by rfl, ?_⟩) (by assumption) ?_
  rotate_left
  · intro w hSw; (try dsimp only at hSw); go_simp; try with_reducible rfl
  go_simp
  refine wpAnyH_take (i := 4) (v := ?_) rfl (by kernel_rfl) (by kernel_rfl) (by kernel_rfl) (fun _ _ _ h => h) (Or.inl ⟨by rfl, ?_⟩) (by assumption) ?_
  rotate_left
  · intro w hSw; (try dsimp only at hSw); go_simp; try with_reducible rfl
  go_simp
  refine wpAnyH_take (i := 5) (v := ?_) rfl (by kernel_rfl) (by kernel_rfl) (by kernel_rfl) (fun _ _ _ h => h) (Or.inl ⟨by rfl, ?_⟩) (by assumption) ?_
  rotate_left
  · intro w hSw; (try dsimp only at hSw); go_simp; try with_reducible rfl
  go_simp
  refine wpAnyH_ready (rs := [1]) (by kernel_rfl) (by simp) ?_
  refine AllReadyH.cons rfl (fun K hK => ?_) AllReadyH.nil
  go_simp
  refine (HNU.out _ (HB1.out.trans (HD.out.mono HB1.out.size))).mono ?_
  rintro e w2 ⟨A3, n3, c3, rfl, hnl, hn24, hno, hb2⟩
  have HNO := Lib.hid hno
  have HNL := Lib.hid hnl
  have HB2 : Hid (Below w1.heap.size w1 w2) := HD.out.trans (hb2.mono HD.out.size)
  clear hb2 hno hnl
  refine hK.out _ _ ?_ (fun hHeld => ?_)
  · exact HS.out _ HB2.out
  clear hK K
  go_simp
  refine wpAnyH_ready (rs := [2]) (by kernel_rfl) (by simp) ?_
  refine AllReadyH.cons rfl (fun K hK => ?_) AllReadyH.nil
  go_simp
  have HSZ : Hid (Calls Try.prog 64 #[.slice A3 n3 c3] w2 fun e w' => e = .returned (.int .i64 ((encsB (nums f)).length : Int)) ∧ w2 = w') := by
    have ho := HNO.out
    have e3 := HNL.out
    subst e3
    obtain ⟨_, _, e, _, _, hokA, hrd⟩ := own_form ho
    simp only [Value.slice.injEq] at e
    obtain ⟨rfl, _, rfl⟩ := e
    rw [Nat.mul_one] at hrd
    have := size_any (nums f) w2.heap.size A3 c3 w2 hokA hrd (by omega)
    rw [if_pos (nums_may HOF.out)] at this
    rw [encsB_len]
    exact this
  refine HSZ.out.mono ?_
  rintro e w' ⟨rfl, rfl⟩
  refine hK.out _ _ ?_ (fun hHeld => ?_)
  · exact HS.out _ HB2.out
  clear hK K
  go_simp
  refine wpAnyH_take (i := 6) (v := ?_) rfl (by kernel_rfl) (by kernel_rfl) (by kernel_rfl) (fun _ _ _ h => h) (Or.inl ⟨by rfl, ?_⟩) (by assumption) ?_
  rotate_left
  · intro w hSw; (try dsimp only at hSw); go_simp; try with_reducible rfl
  go_simp
  refine wpAnyH_take (i := 7) (v := ?_) rfl (by kernel_rfl) (by kernel_rfl) (by kernel_rfl) (fun _ _ _ h => h) (Or.inl ⟨by rfl, ?_⟩) (by assumption) ?_
  rotate_left
  · intro w hSw; (try dsimp only at hSw); go_simp; try with_reducible rfl
  go_simp
  refine wpAnyH_done (by kernel_rfl) ?_ _
  have hbl : ((encsB (nums f)).length : Int) ≤ 192 := by have h1 := sumW_le (nums f); have h2 := encsB_len (nums f); have h3 := HNL.out; omega
  have HEL : Hid (IntKind.i64.wrap (((encsB (nums f)).length : Int) + (n1 : Int)) = ((encF f).length : Int)) := by show _ = _; rw [IntWalk.i64_in _ (by omega)]; unfold encF; rw [List.length_append, hdl.out]; omega
  go_wp2_with fail
  go_ret
  exact ⟨ret_int HEL.out, HB1.out.trans (HB2.out.mono HB1.out.size)⟩
end Go.Proofs.Ytppbhjjkccogkaa
