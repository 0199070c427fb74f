/- Lay of package frame: a contract. Conditions: as the theorem lists them. Size of package frame: a contract. Conditions: as the theorem lists them. -/
import Derived.Test.YtnhkenecogjeaaaDoorP1
import Derived.Test.YtnhkenecogjeaaaDoorE1
namespace Go.Proofs.YtnhkenecogjeaaaDoor
open Go Go.RowKit

def LayP (fs : List Fr) (w : World) (e : Ending) (w' : World) : Prop := ∃ A n c, e = .returned (.tuple #[.slice A n c, .int .i64 0]) ∧ (layF fs).length = n ∧ w'.ownsRow w.heap.size 5 1 (.slice A n c) n (bv (layF fs)) ∧ Below w.heap.size w w'

theorem layF_len {fs : List Fr} (h : ∀ f ∈ fs, OkF f) : (layF fs).length ≤ 312 * fs.length := by
  induction fs with
  | nil => simp [layF]
  | cons f fs ih =>
    have h1 := encF_len (h f (by simp))
    have h2 := ih (fun g hg => h g (by simp [hg]))
    unfold layF at h2 ⊢
    rw [List.flatMap_cons, List.length_append, List.length_cons]
    omega

/-- A frame in a value, as a call takes it. -/
theorem FrC.isFr {w : World} {f : Fr} {A1 A2 : Option Addr} {n1 c1 n2 c2 : Nat} (h : FrC w f (frC f (.slice A1 n1 c1) (.slice A2 n2 c2))) : IsFr w w.heap.size f A1 n1 c1 A2 n2 c2 := by
  obtain ⟨A, n, c, A', n', c', e, h1, h2, h3, h4⟩ := h
  simp only [frC, List.cons.injEq, Value.slice.injEq, true_and, and_true] at e
  obtain ⟨⟨rfl, rfl, rfl⟩, rfl, rfl, rfl⟩ := e
  obtain ⟨_, _, e1, g1, _, _, r1⟩ := own_form h3
  obtain ⟨_, _, e2, g2, _, _, r2⟩ := own_form h4
  simp only [Value.slice.injEq] at e1 e2
  obtain ⟨rfl, _, rfl⟩ := e1
  obtain ⟨rfl, _, rfl⟩ := e2
  exact ⟨h1, g1, by simpa using r1, h2, g2, r2⟩

def LayW (w wr : World) (fs : List Fr) (k : Nat) (v : Value) (m : Nat) : Prop := (layF (fs.take k)).length = m ∧ wr.ownsRow w.heap.size 5 1 v m (bv (layF (fs.take k))) ∧ Below w.heap.size w wr

set_option maxRecDepth 100000 in
set_option maxHeartbeats 4000000 in
theorem lay_ok (fs : List Fr) (A : Option Addr) (n c : Nat) (w : World) (ht : Tabs w) (h : Frs w A n c fs) (hok : ∀ f ∈ fs, OkF f) (hn : n ≤ 100) :
    Calls Tryd.prog 7 #[.slice A n c] w (LayP fs w) := by
  have HT := Lib.hid ht
  have HH := Lib.hid h
  have HOK := Lib.hid hok
  have hci : (n : Int) ≤ (c : Int) := by have := h.2.1; omega
  have hni : (n : Int) ≤ 100 := by omega
  obtain ⟨i0, hi, hz0, hz1, hz2⟩ := info_parts infoB
  have HI := Lib.hid (And.intro hi (And.intro hz0 (And.intro hz1 hz2)))
  clear ht h hok hi hz0 hz1 hz2
  go_enter Tryd.func7, Tryd.ntmps7
  go_wp2_with fail
  go_loopw [4, 9] (fun v i wr => ∃ (k m : Nat), k ≤ n ∧ m ≤ 312 * k ∧ i = .int .i64 k ∧ (∃ A' c', v = .slice A' m c') ∧ Hid (LayW w wr fs k v m)) (fun _ i _ => n - (intOf i).toNat)
  case atStart => exact ⟨0, 0, Nat.zero_le _, by omega, rfl, ⟨_, _, rfl⟩, rfl, own_nil _ _ _ _, Below.refl _ _⟩
  case round =>
    obtain ⟨k, m, hk, hm, rfl, ⟨A', c', rfl⟩, HK⟩ := hrel
    have hm2 : m ≤ 31200 := by omega
    by_cases hlt : k < n
    · have hlti : (k : Int) < (n : Int) := by omega
      obtain ⟨b, off, f, A1, n1, c1, A2, n2, c2, hA, hbl, hf, hfc, hcell⟩ := HH.out.get k hlt
      subst hA
      have hof : OkF f := HOK.out f (List.mem_of_getElem? hf)
      have HOF := Lib.hid hof
      have HSN := Lib.hid (layF_snoc fs k f hf)
      have HEL := Lib.hid (encF_len hof)
      have cc : ∀ j, wr.cell? ⟨b, off + k * 9 + j, none⟩ = w.cell? ⟨b, off + k * 9 + j, none⟩ := fun j => HK.out.2.2.cell (p := ⟨b, off + k * 9 + j, none⟩) hbl
      have g0 : wr.cell? ⟨b, off + k * 9, none⟩ = some (.int .i64 f.k) := (cc 0).trans (hcell 0 _ rfl)
      have g1 : wr.cell? ⟨b, off + k * 9 + 1, none⟩ = some (.int .i64 f.id) := (cc 1).trans (hcell 1 _ rfl)
      have g2 : wr.cell? ⟨b, off + k * 9 + 2, none⟩ = some (.int .i64 f.off) := (cc 2).trans (hcell 2 _ rfl)
      have g3 : wr.cell? ⟨b, off + k * 9 + 3, none⟩ = some (.int .i64 f.a) := (cc 3).trans (hcell 3 _ rfl)
      have g4 : wr.cell? ⟨b, off + k * 9 + 4, none⟩ = some (.int .i64 f.b) := (cc 4).trans (hcell 4 _ rfl)
      have g5 : wr.cell? ⟨b, off + k * 9 + 5, none⟩ = some (.int .i64 f.note) := (cc 5).trans (hcell 5 _ rfl)
      have g6 : wr.cell? ⟨b, off + k * 9 + 6, none⟩ = some (.bool f.fin) := (cc 6).trans (hcell 6 _ rfl)
      have g7 : wr.cell? ⟨b, off + k * 9 + 7, none⟩ = some (.slice A1 n1 c1) := (cc 7).trans (hcell 7 _ rfl)
      have g8 : wr.cell? ⟨b, off + k * 9 + 8, none⟩ = some (.slice A2 n2 c2) := (cc 8).trans (hcell 8 _ rfl)
      have HC : Hid (∀ W, Below w.heap.size w W → IsFr W W.heap.size f A1 n1 c1 A2 n2 c2) := fun W hW => (hfc.below hW).isFr
      obtain ⟨ms, hms8, hsps⟩ := hof.sps
      have hnn : ms = n2 := by have h1 := hsps.1; have h2 := (HC.out w (Below.refl _ _)).2.2.2.1; omega
      subst hnn
      have hn1 : n1 ≤ 120 := by have h1 := (HC.out w (Below.refl _ _)).1; have := hof.data.1; omega
      have hdl : Hid (f.data.length = n1) := (HC.out w (Below.refl _ _)).1
      have HRI : Hid (∀ W, Below w.heap.size w W → Calls Tryd.prog 13 #[.agg #[.int .i64 f.k, .int .i64 f.id, .int .i64 f.off, .int .i64 f.a, .int .i64 f.b, .int .i64 f.note, .bool f.fin, .slice A1 n1 c1, .slice A2 ms c2]] W fun e w' => e = .returned (.bool true) ∧ Below W.heap.size W w') := fun W hW => by
        have := right_any f W.heap.size A1 n1 c1 A2 ms c2 W (HC.out W hW) (Nat.le_refl _) (by omega) (by omega)
        rw [right_ok HOF.out] at this
        exact this
      have HNU : Hid (∀ W, Below w.heap.size w W → Calls Tryd.prog 17 #[.agg #[.int .i64 f.k, .int .i64 f.id, .int .i64 f.off, .int .i64 f.a, .int .i64 f.b, .int .i64 f.note, .bool f.fin, .slice A1 n1 c1, .slice A2 ms c2]] W (NumsP f W)) := fun W hW => numbers_any f A1 n1 c1 A2 ms c2 W (HC.out W hW) hsps hms8 (by omega)
      clear cc hcell hf hfc hof hsps
      go_wp2_with fail
      refine (HRI.out _ (HK.out.2.2.alloc HK.out.2.2.size _)).mono ?_
      rintro e w1 ⟨rfl, hb1⟩
      obtain ⟨hc1, hf1⟩ := bcell hb1
      have hz1 : wr.heap.size < w1.heap.size := by have := hb1.size; simp at this; omega
      have HB1 : Hid (Below wr.heap.size wr w1) := ((Below.refl _ _).alloc (Nat.le_refl _) _).trans (hb1.mono (by simp))
      have HX1 : Hid (Below (wr.heap.size + 1) (wr.alloc (.cells #[.int .i64 f.k, .int .i64 f.id, .int .i64 f.off, .int .i64 f.a, .int .i64 f.b, .int .i64 f.note, .bool f.fin, .slice A1 n1 c1, .slice A2 ms c2] 26)) w1) := hb1.mono (by simp)
      clear hb1
      go_wp2_with fail
      refine (HNU.out _ (HK.out.2.2.trans (HB1.out.mono HK.out.2.2.size))).mono ?_
      rintro e w2 ⟨A3, n3, c3, rfl, hnl, hn24, hno, hb2⟩
      have HNO := Lib.hid hno
      have HNL := Lib.hid hnl
      have HB2 : Hid (Below wr.heap.size wr w2) := HB1.out.trans (hb2.mono (Nat.le_of_lt hz1))
      have HX2 : Hid (Below (wr.heap.size + 1) (wr.alloc (.cells #[.int .i64 f.k, .int .i64 f.id, .int .i64 f.off, .int .i64 f.a, .int .i64 f.b, .int .i64 f.note, .bool f.fin, .slice A1 n1 c1, .slice A2 ms c2] 26)) w2) := HX1.out.trans (hb2.mono hz1)
      clear hb2 hno hnl hc1 hf1
      have HSW : Hid (sumW (nums f) ≤ 192) := by have := sumW_le (nums f); have := HNL.out; show _ ≤ _; omega
      have HPUT : Hid (Calls Tryd.prog 16 #[.slice none 0 0, .slice A3 n3 c3] w2 fun e w' => ∃ v', e = .returned v' ∧ w'.ownsRow w2.heap.size 5 1 v' (encsB (nums f)).length (bv (encsB (nums f))) ∧ Below w2.heap.size w2 w') := by
        have ho := HNO.out
        have e3 := HNL.out
        subst e3
        obtain ⟨_, _, e, _, _, hokA, hrd⟩ := own_form ho
        simp only [Value.slice.injEq] at e
        obtain ⟨rfl, _, rfl⟩ := e
        rw [Nat.mul_one] at hrd
        have := put_ok none 0 0 [] 0 (nums f) w2.heap.size A3 c3 w2 (HT.out.below (HK.out.2.2.trans (HB2.out.mono HK.out.2.2.size)) HT.out.lt) ⟨rfl, fun h => by omega⟩ (Nat.zero_le _) (fun u hu => by cases hu) hrd (Nat.le_refl _) hokA (by omega) (nums_may HOF.out) (by have := HSW.out; omega)
        simp only [Nat.zero_add, List.nil_append, encs_bv] at this
        rw [encsB_len]
        exact this
      go_wp2_with fail
      refine HPUT.out.mono ?_
      rintro e w3 ⟨v3, rfl, ho3, hb3⟩
      obtain ⟨A4, c4, e4, _, _, _, hrd4⟩ := own_form ho3
      subst e4
      obtain ⟨l4, hl4⟩ : ∃ l, Hid ((encsB (nums f)).length = l) := ⟨_, rfl⟩
      rw [hl4.out] at hrd4 ⊢
      have HRD4 := Lib.hid hrd4
      have hl4b : l4 ≤ 192 := by have h1 := HSW.out; have h2 := encsB_len (nums f); have h3 := hl4.out; omega
      have HB3 : Hid (Below wr.heap.size wr w3) := HB2.out.trans (hb3.mono HB2.out.size)
      have HX3 : Hid (Below (wr.heap.size + 1) (wr.alloc (.cells #[.int .i64 f.k, .int .i64 f.id, .int .i64 f.off, .int .i64 f.a, .int .i64 f.b, .int .i64 f.note, .bool f.fin, .slice A1 n1 c1, .slice A2 ms c2] 26)) w3) := HX2.out.trans (hb3.mono (by have := HX2.out.size; simpa using this))
      have HO3 : Hid (w3.ownsRow w.heap.size 5 1 (.slice A' m c') m (bv (layF (fs.take k)))) := own_below HK.out.2.1 HB3.out
      have HBW3 : Hid (Below w.heap.size w w3) := HK.out.2.2.trans (HB3.out.mono HK.out.2.2.size)
      clear ho3 hb3 hrd4 hz1
      go_wp2_with (at_builtin; refine wpList_app _ rfl (.tmp 16) (.tmp 19) 24 rfl w.heap.size 5 i0 (.int .u8 0) 1 1 Tryd.underlying24 HI.out.1 HI.out.2.1 HI.out.2.2.1 HI.out.2.2.2 rfl (by decide) (.slice A' m c') m (bv (layF (fs.take k))) rfl HO3.out w3.heap.size A4 l4 c4 (bv (encsB (nums f))) rfl HRD4.out (ones_bv _) (by unfold maxLen; omega) (by omega) HBW3.out.size ?_)
      intro v4 w4 ho4 hg4
      obtain ⟨A5, c5, e5, _⟩ := own_form ho4
      subst e5
      have HO4 := Lib.hid ho4
      have HBW4 : Hid (Below w.heap.size w w4) := HBW3.out.grown hg4 HBW3.out.size (fun g hg => (HO3.out.lt g hg).1)
      have hcd : w4.cell? ⟨wr.heap.size, 7, none⟩ = some (.slice A1 n1 c1) := by
        have h1 : w3.cell? ⟨wr.heap.size, 7, none⟩ = some (.slice A1 n1 c1) := by
          rw [HX3.out.cell (p := ⟨wr.heap.size, 7, none⟩) (Nat.lt_succ_self _)]
          simp [go_sem]
        rw [← h1]
        refine World.cell?_of_block (w := w3) (hg4.block wr.heap.size (by have := HX3.out.size; simp at this; omega) (fun e => ?_))
        have := HK.out.2.1.lt _ e.symm
        omega
      have HRD5 : Hid (Rd w4 w4.heap.size A1 n1 (bv f.data)) := (HC.out w4 HBW4.out).2.2.1
      clear ho4 hg4
      go_wp2_with (at_builtin; refine wpList_app _ rfl (.tmp 21) (.tmp 23) 24 rfl w.heap.size 5 i0 (.int .u8 0) 1 1 Tryd.underlying24 HI.out.1 HI.out.2.1 HI.out.2.2.1 HI.out.2.2.2 rfl (by decide) (.slice A5 (m + l4) c5) (m + l4) (bv (layF (fs.take k)) ++ bv (encsB (nums f))) rfl HO4.out w4.heap.size A1 n1 c1 (bv f.data) rfl (by rw [Nat.mul_one]; exact HRD5.out) (ones_bv _) (by unfold maxLen; omega) (by omega) HBW4.out.size ?_)
      intro v5 w5 ho5 hg5
      obtain ⟨A6, c6, e6, _⟩ := own_form ho5
      subst e6
      have HN : Hid (LayW w w5 fs (k + 1) (.slice A6 (m + l4 + n1) c6) (m + l4 + n1)) := by
        refine ⟨?_, ?_, HBW4.out.grown hg5 HBW4.out.size (fun g hg => (HO4.out.lt g hg).1)⟩
        · rw [HSN.out, List.length_append, HK.out.1]; unfold encF; rw [List.length_append, hl4.out, hdl.out]; omega
        · rw [HSN.out]; unfold encF; rw [bv_app, bv_app]; exact ho5
      have hmm : m + l4 + n1 ≤ 312 * (k + 1) := by omega
      clear ho5 hg5
      go_wp2_with fail
      go_roundw
      case rel => exact ⟨k + 1, m + l4 + n1, by omega, hmm, by go_num, ⟨_, _, rfl⟩, HN⟩
      case measure => simp [intOf]; omega
    · have hlti : ¬ (k : Int) < (n : Int) := by omega
      obtain rfl : k = n := by omega
      have htk : fs.take k = fs := List.take_of_length_le (by rw [HH.out.1]; exact Nat.le_refl _)
      have HE : Hid (LayP fs w (.returned (.tuple #[.slice A' m c', .int .i64 0])) wr) := by
        have h := HK.out
        unfold LayW at h
        rw [htk] at h
        exact ⟨A', m, c', rfl, h.1, h.2.1, h.2.2⟩
      clear HK htk
      go_wp2_with fail
      go_ret2
      exact HE.out
end Go.Proofs.YtnhkenecogjeaaaDoor

namespace Go.Proofs.YtnhkenecogjeaaaDoor
open Go Go.RowKit

set_option maxRecDepth 100000 in
set_option maxHeartbeats 2000000 in
theorem size_ok_f (f : Fr) (A1 : Option Addr) (n1 c1 : Nat) (A2 : Option Addr) (n2 c2 : Nat) (w : World) (h : IsFr w w.heap.size f A1 n1 c1 A2 n2 c2) (hof : OkF f) :
    Calls Tryd.prog 11 #[.agg #[.int .i64 f.k, .int .i64 f.id, .int .i64 f.off, .int .i64 f.a, .int .i64 f.b, .int .i64 f.note, .bool f.fin, .slice A1 n1 c1, .slice A2 n2 c2]] w fun e w' => e = .returned (.int .i64 ((encF f).length : Int)) ∧ Below w.heap.size w w' := by
  have HC : Hid (∀ W, Below w.heap.size w W → IsFr W W.heap.size f A1 n1 c1 A2 n2 c2) := fun W hW => by
    obtain ⟨h1, h2, h3, h4, h5, h6⟩ := h.below hW (Nat.le_refl _)
    exact ⟨h1, h2, h3.more hW.size, h4, h5, h6.more hW.size⟩
  have HOF := Lib.hid hof
  obtain ⟨ms, hms8, hsps⟩ := hof.sps
  have hnn : ms = n2 := by have h1 := hsps.1; have h2 := h.2.2.2.1; omega
  subst hnn
  have hn1 : n1 ≤ 120 := by have h1 := h.1; have := hof.data.1; omega
  have hdl : Hid (f.data.length = n1) := h.1
  have HRI : Hid (∀ W, Below w.heap.size w W → Calls Tryd.prog 13 #[.agg #[.int .i64 f.k, .int .i64 f.id, .int .i64 f.off, .int .i64 f.a, .int .i64 f.b, .int .i64 f.note, .bool f.fin, .slice A1 n1 c1, .slice A2 ms c2]] W fun e w' => e = .returned (.bool true) ∧ Below W.heap.size W w') := fun W hW => by
    have := right_any f W.heap.size A1 n1 c1 A2 ms c2 W (HC.out W hW) (Nat.le_refl _) (by omega) (by omega)
    rw [right_ok HOF.out] at this
    exact this
  have HNU : Hid (∀ W, Below w.heap.size w W → Calls Tryd.prog 17 #[.agg #[.int .i64 f.k, .int .i64 f.id, .int .i64 f.off, .int .i64 f.a, .int .i64 f.b, .int .i64 f.note, .bool f.fin, .slice A1 n1 c1, .slice A2 ms c2]] W (NumsP f W)) := fun W hW => numbers_any f A1 n1 c1 A2 ms c2 W (HC.out W hW) hsps hms8 (by omega)
  clear h hof hsps
  go_enter Tryd.func11, Tryd.ntmps11
  go_wp2_with fail
  refine (HRI.out _ ((Below.refl _ _).alloc (Nat.le_refl _) _)).mono ?_
  rintro e w1 ⟨rfl, hb1⟩
  obtain ⟨g, hg⟩ : ∃ g, Hid (w.heap.size = g) := ⟨_, rfl⟩
  have HB1 : Hid (Below w.heap.size w w1) := ((Below.refl _ _).alloc (Nat.le_refl _) _).trans (hb1.mono (by simp))
  have HX1 : Hid (∀ j, w1.cell? ⟨g, j, none⟩ = (w.alloc (.cells #[.int .i64 f.k, .int .i64 f.id, .int .i64 f.off, .int .i64 f.a, .int .i64 f.b, .int .i64 f.note, .bool f.fin, .slice A1 n1 c1, .slice A2 ms c2] 26)).cell? ⟨w.heap.size, j, none⟩) := fun j => by rw [← hg.out]; exact hb1.cell (p := ⟨w.heap.size, j, none⟩) (by simp)
  have hgl : Hid (g < w1.heap.size) := by have := hb1.size; simp at this; have := hg.out; show _ < _; omega
  have HS : Hid (∀ W', Below w1.heap.size w1 W' → W'.cell? ⟨g, 0, none⟩ = some (.int .i64 f.k) ∧ W'.cell? ⟨g, 1, none⟩ = some (.int .i64 f.id) ∧ W'.cell? ⟨g, 2, none⟩ = some (.int .i64 f.off) ∧ W'.cell? ⟨g, 3, none⟩ = some (.int .i64 f.a) ∧ W'.cell? ⟨g, 4, none⟩ = some (.int .i64 f.b) ∧ W'.cell? ⟨g, 5, none⟩ = some (.int .i64 f.note) ∧ W'.cell? ⟨g, 6, none⟩ = some (.bool f.fin) ∧ W'.cell? ⟨g, 7, none⟩ = some (.slice A1 n1 c1) ∧ W'.cell? ⟨g, 8, none⟩ = some (.slice A2 ms c2)) := fun W hW => by
    refine ⟨?_, ?_, ?_, ?_, ?_, ?_, ?_, ?_, ?_⟩
    all_goals (refine (hW.cell (p := ⟨g, _, none⟩) hgl.out).trans ?_; rw [HX1.out]; simp [go_sem])
  have HD : Hid (Below w1.heap.size w1 w1.drew) := ⟨rfl, rfl, rfl, Nat.le_refl _, fun _ _ => rfl⟩
  clear hb1
  rw [hg.out]
  have hcs := HS.out w1 (Below.refl _ _)
  obtain ⟨c0_, c1_, c2_, c3_, c4_, c5_, c6_, c7_, c8_⟩ := hcs
  go_wp2_with fail
  refine wp_region_held_drew (S := fun W' => W'.cell? ⟨g, 0, none⟩ = some (.int .i64 f.k) ∧ W'.cell? ⟨g, 1, none⟩ = some (.int .i64 f.id) ∧ W'.cell? ⟨g, 2, none⟩ = some (.int .i64 f.off) ∧ W'.cell? ⟨g, 3, none⟩ = some (.int .i64 f.a) ∧ W'.cell? ⟨g, 4, none⟩ = some (.int .i64 f.b) ∧ W'.cell? ⟨g, 5, none⟩ = some (.int .i64 f.note) ∧ W'.cell? ⟨g, 6, none⟩ = some (.bool f.fin) ∧ W'.cell? ⟨g, 7, none⟩ = some (.slice A1 n1 c1) ∧ W'.cell? ⟨g, 8, none⟩ = some (.slice A2 ms c2)) (by kernel_rfl) ?_ (fun hHeld => ?_)
  · exact HS.out _ HD.out
  refine wpAnyH_take (i := 0) (v := ?_) rfl (by kernel_rfl) (by kernel_rfl) (by kernel_rfl) (fun _ _ _ h => h) (Or.inl ⟨by rfl, ?_⟩) (by assumption) ?_
  rotate_left
  · intro w hSw; (try dsimp only at hSw); go_simp; try with_reducible rfl
  go_simp
  refine wpAnyH_take (i := 3) (v := ?_) rfl (by kernel_rfl) (by kernel_rfl) (by kernel_rfl) (fun _ _ _ h => h) (Or.inl ⟨by rfl, ?_⟩) (by assumption) ?_
  rotate_left
  · intro w hSw; (try dsimp only at hSw); go_simp; try with_reducible rfl
  go_simp
  refine wpAnyH_take (i := 4) (v := ?_) rfl (by kernel_rfl) (by kernel_rfl) (by kernel_rfl) (fun _ _ _ h => h) (Or.inl ⟨by rfl, ?_⟩) (by assumption) ?_
  rotate_left
  · intro w hSw; (try dsimp only at hSw); go_simp; try with_reducible rfl
  go_simp
  refine wpAnyH_take (i := 5) (v := ?_) rfl (by kernel_rfl) (by kernel_rfl) (by kernel_rfl) (fun _ _ _ h => h) (Or.inl ⟨by rfl, ?_⟩) (by assumption) ?_
  rotate_left
  · intro w hSw; (try dsimp only at hSw); go_simp; try with_reducible rfl
  go_simp
  refine wpAnyH_ready (rs := [1]) (by kernel_rfl) (by simp) ?_
  refine AllReadyH.cons rfl (fun K hK => ?_) AllReadyH.nil
  go_simp
  refine (HNU.out _ (HB1.out.trans (HD.out.mono HB1.out.size))).mono ?_
  rintro e w2 ⟨A3, n3, c3, rfl, hnl, hn24, hno, hb2⟩
  have HNO := Lib.hid hno
  have HNL := Lib.hid hnl
  have HB2 : Hid (Below w1.heap.size w1 w2) := HD.out.trans (hb2.mono HD.out.size)
  clear hb2 hno hnl
  refine hK.out _ _ ?_ (fun hHeld => ?_)
  · exact HS.out _ HB2.out
  clear hK K
  go_simp
  refine wpAnyH_ready (rs := [2]) (by kernel_rfl) (by simp) ?_
  refine AllReadyH.cons rfl (fun K hK => ?_) AllReadyH.nil
  go_simp
  have HSZ : Hid (Calls Tryd.prog 21 #[.slice A3 n3 c3] w2 fun e w' => e = .returned (.int .i64 ((encsB (nums f)).length : Int)) ∧ w2 = w') := by
    have ho := HNO.out
    have e3 := HNL.out
    subst e3
    obtain ⟨_, _, e, _, _, hokA, hrd⟩ := own_form ho
    simp only [Value.slice.injEq] at e
    obtain ⟨rfl, _, rfl⟩ := e
    rw [Nat.mul_one] at hrd
    have := size_any (nums f) w2.heap.size A3 c3 w2 hokA hrd (by omega)
    rw [if_pos (nums_may HOF.out)] at this
    rw [encsB_len]
    exact this
  refine HSZ.out.mono ?_
  rintro e w' ⟨rfl, rfl⟩
  refine hK.out _ _ ?_ (fun hHeld => ?_)
  · exact HS.out _ HB2.out
  clear hK K
  go_simp
  refine wpAnyH_take (i := 6) (v := ?_) rfl (by kernel_rfl) (by kernel_rfl) (by kernel_rfl) (fun _ _ _ h => h) (Or.inl ⟨by rfl, ?_⟩) (by assumption) ?_
  rotate_left
  · intro w hSw; (try dsimp only at hSw); go_simp; try with_reducible rfl
  go_simp
  refine wpAnyH_take (i := 7) (v := ?_) rfl (by kernel_rfl) (by kernel_rfl) (by kernel_rfl) (fun _ _ _ h => h) (Or.inl ⟨by rfl, ?_⟩) (by assumption) ?_
  rotate_left
  · intro w hSw; (try dsimp only at hSw); go_simp; try with_reducible rfl
  go_simp
  refine wpAnyH_done (by kernel_rfl) ?_ _
  have hbl : ((encsB (nums f)).length : Int) ≤ 192 := by have h1 := sumW_le (nums f); have h2 := encsB_len (nums f); have h3 := HNL.out; omega
  have HEL : Hid (IntKind.i64.wrap (((encsB (nums f)).length : Int) + (n1 : Int)) = ((encF f).length : Int)) := by show _ = _; rw [IntWalk.i64_in _ (by omega)]; unfold encF; rw [List.length_append, hdl.out]; omega
  go_wp2_with fail
  go_ret
  exact ⟨ret_int HEL.out, HB1.out.trans (HB2.out.mono HB1.out.size)⟩
end Go.Proofs.YtnhkenecogjeaaaDoor
