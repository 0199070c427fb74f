/- Elicits of package frame: a contract. Conditions: as the theorem lists them. -/
import Derived.Test.YtnhkenecogjeaaaDoorG6
namespace Go.Proofs.YtnhkenecogjeaaaDoor
open Go Go.RowKit

/-- Frames in memory, whoever's. -/
def Frs (w : World) (A : Option Addr) (n c : Nat) (fs : List Fr) : Prop := fs.length = n ∧ n ≤ c ∧ ∃ cells, Rd w w.heap.size A (n * 9) cells ∧ FrsC w fs cells

theorem Frs.below {w w' : World} {A : Option Addr} {n c : Nat} {fs : List Fr} (h : Frs w A n c fs) (hb : Below w.heap.size w w') : Frs w' A n c fs := by
  obtain ⟨h1, h2, cells, h3, h4⟩ := h
  exact ⟨h1, h2, cells, (h3.below hb (Nat.le_refl _)).more hb.size, h4.below hb⟩
theorem FrsOwn.frs {w : World} {base : Nat} {A : Option Addr} {n c : Nat} {fs : List Fr} (h : FrsOwn w base (.slice A n c) fs) (hn : fs.length = n) : Frs w A n c fs := by
  obtain ⟨cells, h1, h2⟩ := h
  subst hn
  obtain ⟨A', c', e, hc, _, _, hr⟩ := own_form h1
  simp only [Value.slice.injEq] at e
  obtain ⟨rfl, _, rfl⟩ := e
  exact ⟨rfl, hc, cells, hr, h2⟩
/-- The k-th of them: its nine cells, read. -/
theorem Frs.get {w : World} {A : Option Addr} {n c : Nat} {fs : List Fr} (h : Frs w A n c fs) (k : Nat) (hk : k < n) :
    ∃ b off f A1 n1 c1 A2 n2 c2, A = some ⟨b, off, none⟩ ∧ b < w.heap.size ∧ fs[k]? = some f ∧ FrC w f (frC f (.slice A1 n1 c1) (.slice A2 n2 c2)) ∧ ∀ (j : Nat) (u : Value), (frC f (.slice A1 n1 c1) (.slice A2 n2 c2))[j]? = some u → w.cell? ⟨b, off + k * 9 + j, none⟩ = some u := by
  obtain ⟨h1, h2, cells, h3, h4⟩ := h
  obtain ⟨b, off, rfl, hb, hc⟩ := h3.2 (by omega)
  have hf : fs[k]? = some (fs[k]'(by omega)) := List.getElem?_eq_getElem (by omega)
  obtain ⟨cs, hcs, hj⟩ := h4.get k _ hf
  have hcs2 := hcs
  obtain ⟨A1, n1, c1, A2, n2, c2, rfl, _⟩ := hcs2
  refine ⟨b, off, _, A1, n1, c1, A2, n2, c2, rfl, hb, hf, hcs, fun j u hu => ?_⟩
  have hj9 : j < 9 := (List.getElem?_eq_some_iff.1 hu).1
  rw [Nat.add_assoc]
  exact hc _ u ((hj j hj9).trans hu)

def ElP (fs : List Fr) (w : World) (e : Ending) (w' : World) : Prop := ∃ r : Int, e = .returned (.int .i64 r) ∧ decide (0 ≤ r) = (fs.any fun f => elB f.k) ∧ Below w.heap.size w w'

theorem any_no {fs : List Fr} {n : Nat} (hn : fs.length = n) (h : ∀ j f, j < n → fs[j]? = some f → elB f.k = false) : (fs.any fun f => elB f.k) = false := by
  rw [List.any_eq_false]
  intro f hf
  obtain ⟨j, hj, rfl⟩ := List.mem_iff_getElem.1 hf
  rw [h j _ (by omega) (List.getElem?_eq_getElem hj)]
  decide
theorem any_yes {fs : List Fr} {k : Nat} {f : Fr} (hf : fs[k]? = some f) (h : elB f.k = true) : (fs.any fun f => elB f.k) = true :=
  List.any_eq_true.2 ⟨f, List.mem_of_getElem? hf, h⟩

set_option maxHeartbeats 1000000 in
theorem index_any (fs : List Fr) (A : Option Addr) (n c : Nat) (w : World) (h : Frs w A n c fs) (hn : n ≤ 140737488355328) :
    Calls Tryd.prog 40 #[.slice A n c, .func (.func 23) #[] #[]] w (ElP fs w) := by
  have HH := Lib.hid h
  have hci : (n : Int) ≤ (c : Int) := by have := h.2.1; omega
  have hni : (n : Int) ≤ 140737488355328 := by omega
  clear h
  go_enter Tryd.func40, Tryd.ntmps40
  go_wp2_with fail
  go_loopw [8] (fun i wr => ∃ k : Nat, k ≤ n ∧ i = .int .i64 k ∧ Hid (∀ j f, j < k → fs[j]? = some f → elB f.k = false) ∧ Hid (Below w.heap.size w wr)) (fun i _ => n - (intOf i).toNat)
  case atStart => exact ⟨0, Nat.zero_le _, rfl, fun j f hj => by omega, Below.refl _ _⟩
  case round =>
    obtain ⟨k, hk, rfl, HK, HB⟩ := hrel
    by_cases hlt : k < n
    · have hlti : (k : Int) < (n : Int) := by omega
      obtain ⟨b, off, f, A1, n1, c1, A2, n2, c2, hA, hbl, hf, _, hcell⟩ := HH.out.get k hlt
      subst hA
      have HF := Lib.hid hf
      have cc : ∀ j, wr.cell? ⟨b, off + k * 9 + j, none⟩ = w.cell? ⟨b, off + k * 9 + j, none⟩ := fun j => HB.out.cell (p := ⟨b, off + k * 9 + j, none⟩) hbl
      have g0 : wr.cell? ⟨b, off + k * 9, none⟩ = some (.int .i64 f.k) := (cc 0).trans (hcell 0 _ rfl)
      have g1 : wr.cell? ⟨b, off + k * 9 + 1, none⟩ = some (.int .i64 f.id) := (cc 1).trans (hcell 1 _ rfl)
      have g2 : wr.cell? ⟨b, off + k * 9 + 2, none⟩ = some (.int .i64 f.off) := (cc 2).trans (hcell 2 _ rfl)
      have g3 : wr.cell? ⟨b, off + k * 9 + 3, none⟩ = some (.int .i64 f.a) := (cc 3).trans (hcell 3 _ rfl)
      have g4 : wr.cell? ⟨b, off + k * 9 + 4, none⟩ = some (.int .i64 f.b) := (cc 4).trans (hcell 4 _ rfl)
      have g5 : wr.cell? ⟨b, off + k * 9 + 5, none⟩ = some (.int .i64 f.note) := (cc 5).trans (hcell 5 _ rfl)
      have g6 : wr.cell? ⟨b, off + k * 9 + 6, none⟩ = some (.bool f.fin) := (cc 6).trans (hcell 6 _ rfl)
      have g7 : wr.cell? ⟨b, off + k * 9 + 7, none⟩ = some (.slice A1 n1 c1) := (cc 7).trans (hcell 7 _ rfl)
      have g8 : wr.cell? ⟨b, off + k * 9 + 8, none⟩ = some (.slice A2 n2 c2) := (cc 8).trans (hcell 8 _ rfl)
      have HE := Lib.hid (fun W => elicits1 f.k f.id f.off f.a f.b f.note f.fin A1 n1 c1 A2 n2 c2 W)
      obtain ⟨q, hq⟩ : ∃ q, Hid (elB f.k = q) := ⟨_, rfl⟩
      rw [hq.out] at HE
      clear cc hcell hf
      cases q
      · have HK2 : Hid (∀ j f, j < k + 1 → fs[j]? = some f → elB f.k = false) := fun j g hj hg => by
          rcases Nat.lt_or_ge j k with h1 | h1
          · exact HK.out j g h1 hg
          · obtain rfl : j = k := by omega
            have := HF.out.symm.trans hg
            cases this
            exact hq.out
        go_wp2_with fail
        refine (HE.out _).mono ?_
        rintro e w1 ⟨rfl, hb1⟩
        have HB1 : Hid (Below w.heap.size w w1) := HB.out.trans (hb1.mono HB.out.size)
        clear hb1
        go_wp2_with fail
        go_roundw
        case rel => exact ⟨k + 1, by omega, by go_num, HK2, HB1⟩
        case measure => simp [intOf]; omega
      · have HY := Lib.hid (any_yes HF.out hq.out)
        go_wp2_with fail
        refine (HE.out _).mono ?_
        rintro e w1 ⟨rfl, hb1⟩
        have HB1 : Hid (Below w.heap.size w w1) := HB.out.trans (hb1.mono HB.out.size)
        have HP : Hid (ElP fs w (.returned (.int .i64 (k : Int))) w1) := ⟨_, rfl, by rw [HY.out]; exact decide_eq_true (by omega), HB1.out⟩
        clear hb1
        go_wp2_with fail
        go_ret
        exact HP.out
    · have hlti : ¬ (k : Int) < (n : Int) := by omega
      have HP : Hid (ElP fs w (.returned (.int .i64 (-1))) wr) := ⟨_, rfl, by rw [any_no HH.out.1 (fun j f hj => HK.out j f (by omega))]; decide, HB.out⟩
      go_wp2_with fail
      go_ret
      exact HP.out

theorem elicits_any (fs : List Fr) (A : Option Addr) (n c : Nat) (w : World) (h : Frs w A n c fs) (hn : n ≤ 140737488355328) :
    Calls Tryd.prog 12 #[.slice A n c] w fun e w' => e = .returned (.bool (fs.any fun f => elB f.k)) ∧ Below w.heap.size w w' := by
  have HI := Lib.hid (index_any fs A n c w h hn)
  clear h
  have HC : Hid (Calls Tryd.prog 22 #[.slice A n c, .func (.func 23) #[] #[]] w fun e w' => e = .returned (.bool (fs.any fun f => elB f.k)) ∧ Below w.heap.size w w') := by
    show Calls _ _ _ _ _
    go_enter Tryd.func22, Tryd.ntmps22
    go_wp2_with fail
    refine HI.out.mono ?_
    rintro e w1 ⟨r, rfl, hr, hb1⟩
    have HR := Lib.hid hr
    have HB := Lib.hid hb1
    clear hr hb1
    go_wp2_with fail
    all_goals
      first
        | (go_ret; exact ⟨ret_bool HR.out, HB.out⟩)
        | (go_ret; exact ⟨ret_bool (HR.out ▸ (by first | (rw [decide_eq_true (by assumption)]) | (rw [decide_eq_false (by assumption)]))), HB.out⟩)
  go_enter Tryd.func12, Tryd.ntmps12
  go_wp2_with fail
  refine HC.out.mono ?_
  rintro e w1 ⟨rfl, hb1⟩
  have HB := Lib.hid hb1
  clear hb1
  go_wp2_with fail
  go_ret
  exact ⟨rfl, HB.out⟩
end Go.Proofs.YtnhkenecogjeaaaDoor
