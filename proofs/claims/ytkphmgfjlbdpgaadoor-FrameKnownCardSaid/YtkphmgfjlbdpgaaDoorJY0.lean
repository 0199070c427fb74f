/- Lay, Same, Elicits of frames that read as they should, wherever their bytes lie: contracts. Conditions: as each theorem lists them. -/
import Derived.Test.YtkphmgfjlbdpgaaDoorJ8c
set_option linter.unusedSimpArgs false
set_option linter.unusedVariables false

namespace Go.Proofs.YtkphmgfjlbdpgaaDoor.Rx
open Go Go.RowKit

/-- Nine cells that read as a frame. -/
def FrC (w : World) (f : Fr) (cs : List Value) : Prop := ∃ A n c A2 n2 c2, cs = frC f (.slice A n c) (.slice A2 n2 c2) ∧ IsFr w w.heap.size f A n c A2 n2 c2
theorem FrC.isFr {w : World} {f : Fr} {A1 : Option Addr} {n1 c1 : Nat} {A2 : Option Addr} {n2 c2 : Nat} (h : FrC w f (frC f (.slice A1 n1 c1) (.slice A2 n2 c2))) : IsFr w w.heap.size f A1 n1 c1 A2 n2 c2 := by
  obtain ⟨_, _, _, _, _, _, e, h⟩ := h
  simp only [frC, List.cons.injEq, Value.slice.injEq, true_and, and_true] at e
  obtain ⟨⟨rfl, rfl, rfl⟩, rfl, rfl, rfl⟩ := e
  exact h
theorem FrC.below {w w' : World} {f : Fr} {cs : List Value} (h : FrC w f cs) (hb : Below w.heap.size w w') : FrC w' f cs := by
  obtain ⟨A, n, c, A2, n2, c2, e, h⟩ := h
  obtain ⟨h1, h2, h3, h4, h5, h6⟩ := h.below hb (Nat.le_refl _)
  exact ⟨A, n, c, A2, n2, c2, e, h1, h2, h3.more hb.size, h4, h5, h6.more hb.size⟩
theorem FrC.parts {w : World} {f : Fr} {A1 : Option Addr} {n1 c1 : Nat} {A2 : Option Addr} {n2 c2 : Nat} (h : FrC w f (frC f (.slice A1 n1 c1) (.slice A2 n2 c2))) : f.data.length = n1 ∧ f.spans.length = n2 * 2 ∧ n2 ≤ c2 ∧ Rd w w.heap.size A1 n1 (bv f.data) ∧ Rd w w.heap.size A2 (n2 * 2) (ints f.spans) := by
  obtain ⟨h1, h2, h3, h4, h5, h6⟩ := h.isFr
  exact ⟨h1, h4, h5, h3, h6⟩
def Frs (w : World) (A : Option Addr) (n c : Nat) (fs : List Fr) : Prop := fs.length = n ∧ n ≤ c ∧ ∀ k, k < n → ∃ b off f A1 n1 c1 A2 n2 c2, A = some ⟨b, off, none⟩ ∧ b < w.heap.size ∧ fs[k]? = some f ∧ FrC w f (frC f (.slice A1 n1 c1) (.slice A2 n2 c2)) ∧ ∀ (j : Nat) (u : Value), (frC f (.slice A1 n1 c1) (.slice A2 n2 c2))[j]? = some u → w.cell? ⟨b, off + k * 9 + j, none⟩ = some u
theorem Frs.get {w : World} {A : Option Addr} {n c : Nat} {fs : List Fr} (h : Frs w A n c fs) (k : Nat) (hk : k < n) : ∃ b off f A1 n1 c1 A2 n2 c2, A = some ⟨b, off, none⟩ ∧ b < w.heap.size ∧ fs[k]? = some f ∧ FrC w f (frC f (.slice A1 n1 c1) (.slice A2 n2 c2)) ∧ ∀ (j : Nat) (u : Value), (frC f (.slice A1 n1 c1) (.slice A2 n2 c2))[j]? = some u → w.cell? ⟨b, off + k * 9 + j, none⟩ = some u := h.2.2 k hk
theorem Frs.below {w w' : World} {A : Option Addr} {n c : Nat} {fs : List Fr} (h : Frs w A n c fs) (hb : Below w.heap.size w w') : Frs w' A n c fs := by
  refine ⟨h.1, h.2.1, fun k hk => ?_⟩
  obtain ⟨b, off, f, A1, n1, c1, A2, n2, c2, e, hl, hf, hc, hj⟩ := h.2.2 k hk
  exact ⟨b, off, f, A1, n1, c1, A2, n2, c2, e, Nat.lt_of_lt_of_le hl hb.size, hf, hc.below hb, fun j u hu => (hb.cell (p := ⟨b, off + k * 9 + j, none⟩) hl).trans (hj j u hu)⟩
theorem of_frs {w : World} {A : Option Addr} {n c : Nat} {fs : List Fr} (h : Go.Proofs.YtkphmgfjlbdpgaaDoor.Frs w A n c fs) : Frs w A n c fs := by
  refine ⟨h.1, h.2.1, fun k hk => ?_⟩
  obtain ⟨b, off, f, A1, n1, c1, A2, n2, c2, e, hl, hf, hc, hj⟩ := h.get k hk
  exact ⟨b, off, f, A1, n1, c1, A2, n2, c2, e, hl, hf, ⟨_, _, _, _, _, _, rfl, hc.isFr⟩, hj⟩

set_option maxHeartbeats 1000000 in
theorem index_any (fs : List Fr) (A : Option Addr) (n c : Nat) (w : World) (h : Frs w A n c fs) (hn : n ≤ 140737488355328) :
    Calls Tryd.prog 80 #[.slice A n c, .func (.func 41) #[] #[]] w (ElP fs w) := by
  have HH := Lib.hid h
  have hci : (n : Int) ≤ (c : Int) := by have := h.2.1; omega
  have hni : (n : Int) ≤ 140737488355328 := by omega
  clear h
  go_enter Tryd.func80, Tryd.ntmps80
  go_wp2_with fail
  go_loopw [8] (fun i wr => ∃ k : Nat, k ≤ n ∧ i = .int .i64 k ∧ Hid (∀ j f, j < k → fs[j]? = some f → elB f.k = false) ∧ Hid (Below w.heap.size w wr)) (fun i _ => n - (intOf i).toNat)
  case atStart => exact ⟨0, Nat.zero_le _, rfl, fun j f hj => by omega, Below.refl _ _⟩
  case round =>
    obtain ⟨k, hk, rfl, HK, HB⟩ := hrel
    by_cases hlt : k < n
    · have hlti : (k : Int) < (n : Int) := by omega
      obtain ⟨b, off, f, A1, n1, c1, A2, n2, c2, hA, hbl, hf, _, hcell⟩ := HH.out.get k hlt
      subst hA
      have HF := Lib.hid hf
      have cc : ∀ j, wr.cell? ⟨b, off + k * 9 + j, none⟩ = w.cell? ⟨b, off + k * 9 + j, none⟩ := fun j => HB.out.cell (p := ⟨b, off + k * 9 + j, none⟩) hbl
      have g0 : wr.cell? ⟨b, off + k * 9, none⟩ = some (.int .i64 f.k) := (cc 0).trans (hcell 0 _ rfl)
      have g1 : wr.cell? ⟨b, off + k * 9 + 1, none⟩ = some (.int .i64 f.id) := (cc 1).trans (hcell 1 _ rfl)
      have g2 : wr.cell? ⟨b, off + k * 9 + 2, none⟩ = some (.int .i64 f.off) := (cc 2).trans (hcell 2 _ rfl)
      have g3 : wr.cell? ⟨b, off + k * 9 + 3, none⟩ = some (.int .i64 f.a) := (cc 3).trans (hcell 3 _ rfl)
      have g4 : wr.cell? ⟨b, off + k * 9 + 4, none⟩ = some (.int .i64 f.b) := (cc 4).trans (hcell 4 _ rfl)
      have g5 : wr.cell? ⟨b, off + k * 9 + 5, none⟩ = some (.int .i64 f.note) := (cc 5).trans (hcell 5 _ rfl)
      have g6 : wr.cell? ⟨b, off + k * 9 + 6, none⟩ = some (.bool f.fin) := (cc 6).trans (hcell 6 _ rfl)
      have g7 : wr.cell? ⟨b, off + k * 9 + 7, none⟩ = some (.slice A1 n1 c1) := (cc 7).trans (hcell 7 _ rfl)
      have g8 : wr.cell? ⟨b, off + k * 9 + 8, none⟩ = some (.slice A2 n2 c2) := (cc 8).trans (hcell 8 _ rfl)
      have HE := Lib.hid (fun W => elicits1 f.k f.id f.off f.a f.b f.note f.fin A1 n1 c1 A2 n2 c2 W)
      obtain ⟨q, hq⟩ : ∃ q, Hid (elB f.k = q) := ⟨_, rfl⟩
      rw [hq.out] at HE
      clear cc hcell hf
      cases q
      · have HK2 : Hid (∀ j f, j < k + 1 → fs[j]? = some f → elB f.k = false) := fun j g hj hg => by
          rcases Nat.lt_or_ge j k with h1 | h1
          · exact HK.out j g h1 hg
          · obtain rfl : j = k := by omega
            have := HF.out.symm.trans hg
            cases this
            exact hq.out
        go_wp2_with fail
        refine (HE.out _).mono ?_
        rintro e w1 ⟨rfl, hb1⟩
        have HB1 : Hid (Below w.heap.size w w1) := HB.out.trans (hb1.mono HB.out.size)
        clear hb1
        go_wp2_with fail
        go_roundw
        case rel => exact ⟨k + 1, by omega, by go_num, HK2, HB1⟩
        case measure => simp [intOf]; omega
      · have HY := Lib.hid (any_yes HF.out hq.out)
        go_wp2_with fail
        refine (HE.out _).mono ?_
        rintro e w1 ⟨rfl, hb1⟩
        have HB1 : Hid (Below w.heap.size w w1) := HB.out.trans (hb1.mono HB.out.size)
        have HP : Hid (ElP fs w (.returned (.int .i64 (k : Int))) w1) := ⟨_, rfl, by rw [HY.out]; exact decide_eq_true (by omega), HB1.out⟩
        clear hb1
        go_wp2_with fail
        go_ret
        exact HP.out
    · have hlti : ¬ (k : Int) < (n : Int) := by omega
      have HP : Hid (ElP fs w (.returned (.int .i64 (-1))) wr) := ⟨_, rfl, by rw [any_no HH.out.1 (fun j f hj => HK.out j f (by omega))]; decide, HB.out⟩
      go_wp2_with fail
      go_ret
      exact HP.out

theorem elicits_any (fs : List Fr) (A : Option Addr) (n c : Nat) (w : World) (h : Frs w A n c fs) (hn : n ≤ 140737488355328) :
    Calls Tryd.prog 17 #[.slice A n c] w fun e w' => e = .returned (.bool (fs.any fun f => elB f.k)) ∧ Below w.heap.size w w' := by
  have HI := Lib.hid (index_any fs A n c w h hn)
  clear h
  have HC : Hid (Calls Tryd.prog 40 #[.slice A n c, .func (.func 41) #[] #[]] w fun e w' => e = .returned (.bool (fs.any fun f => elB f.k)) ∧ Below w.heap.size w w') := by
    show Calls _ _ _ _ _
    go_enter Tryd.func40, Tryd.ntmps40
    go_wp2_with fail
    refine HI.out.mono ?_
    rintro e w1 ⟨r, rfl, hr, hb1⟩
    have HR := Lib.hid hr
    have HB := Lib.hid hb1
    clear hr hb1
    go_wp2_with fail
    all_goals
      first
        | (go_ret; exact ⟨ret_bool HR.out, HB.out⟩)
        | (go_ret; exact ⟨ret_bool (HR.out ▸ (by first | (rw [decide_eq_true (by assumption)]) | (rw [decide_eq_false (by assumption)]))), HB.out⟩)
  go_enter Tryd.func17, Tryd.ntmps17
  go_wp2_with fail
  refine HC.out.mono ?_
  rintro e w1 ⟨rfl, hb1⟩
  have HB := Lib.hid hb1
  clear hb1
  go_wp2_with fail
  go_ret
  exact ⟨rfl, HB.out⟩

set_option maxRecDepth 100000 in
set_option maxHeartbeats 4000000 in
theorem lay_ok (fs : List Fr) (A : Option Addr) (n c : Nat) (w : World) (ht : Tabs w) (h : Frs w A n c fs) (hok : ∀ f ∈ fs, OkF f) (hn : n ≤ 100) :
    Calls Tryd.prog 12 #[.slice A n c] w (LayP fs w) := by
  have HT := Lib.hid ht
  have HH := Lib.hid h
  have HOK := Lib.hid hok
  have hci : (n : Int) ≤ (c : Int) := by have := h.2.1; omega
  have hni : (n : Int) ≤ 100 := by omega
  obtain ⟨i0, hi, hz0, hz1, hz2⟩ := info_parts infoB
  have HI := Lib.hid (And.intro hi (And.intro hz0 (And.intro hz1 hz2)))
  clear ht h hok hi hz0 hz1 hz2
  go_enter Tryd.func12, Tryd.ntmps12
  go_wp2_with fail
  go_loopw [4, 9] (fun v i wr => ∃ (k m : Nat), k ≤ n ∧ m ≤ 312 * k ∧ i = .int .i64 k ∧ (∃ A' c', v = .slice A' m c') ∧ Hid (LayW w wr fs k v m)) (fun _ i _ => n - (intOf i).toNat)
  case atStart => exact ⟨0, 0, Nat.zero_le _, by omega, rfl, ⟨_, _, rfl⟩, rfl, own_nil _ _ _ _, Below.refl _ _⟩
  case round =>
    obtain ⟨k, m, hk, hm, rfl, ⟨A', c', rfl⟩, HK⟩ := hrel
    have hm2 : m ≤ 31200 := by omega
    by_cases hlt : k < n
    · have hlti : (k : Int) < (n : Int) := by omega
      obtain ⟨b, off, f, A1, n1, c1, A2, n2, c2, hA, hbl, hf, hfc, hcell⟩ := HH.out.get k hlt
      subst hA
      have hof : OkF f := HOK.out f (List.mem_of_getElem? hf)
      have HOF := Lib.hid hof
      have HSN := Lib.hid (layF_snoc fs k f hf)
      have HEL := Lib.hid (encF_len hof)
      have cc : ∀ j, wr.cell? ⟨b, off + k * 9 + j, none⟩ = w.cell? ⟨b, off + k * 9 + j, none⟩ := fun j => HK.out.2.2.cell (p := ⟨b, off + k * 9 + j, none⟩) hbl
      have g0 : wr.cell? ⟨b, off + k * 9, none⟩ = some (.int .i64 f.k) := (cc 0).trans (hcell 0 _ rfl)
      have g1 : wr.cell? ⟨b, off + k * 9 + 1, none⟩ = some (.int .i64 f.id) := (cc 1).trans (hcell 1 _ rfl)
      have g2 : wr.cell? ⟨b, off + k * 9 + 2, none⟩ = some (.int .i64 f.off) := (cc 2).trans (hcell 2 _ rfl)
      have g3 : wr.cell? ⟨b, off + k * 9 + 3, none⟩ = some (.int .i64 f.a) := (cc 3).trans (hcell 3 _ rfl)
      have g4 : wr.cell? ⟨b, off + k * 9 + 4, none⟩ = some (.int .i64 f.b) := (cc 4).trans (hcell 4 _ rfl)
      have g5 : wr.cell? ⟨b, off + k * 9 + 5, none⟩ = some (.int .i64 f.note) := (cc 5).trans (hcell 5 _ rfl)
      have g6 : wr.cell? ⟨b, off + k * 9 + 6, none⟩ = some (.bool f.fin) := (cc 6).trans (hcell 6 _ rfl)
      have g7 : wr.cell? ⟨b, off + k * 9 + 7, none⟩ = some (.slice A1 n1 c1) := (cc 7).trans (hcell 7 _ rfl)
      have g8 : wr.cell? ⟨b, off + k * 9 + 8, none⟩ = some (.slice A2 n2 c2) := (cc 8).trans (hcell 8 _ rfl)
      have HC : Hid (∀ W, Below w.heap.size w W → IsFr W W.heap.size f A1 n1 c1 A2 n2 c2) := fun W hW => (hfc.below hW).isFr
      obtain ⟨ms, hms8, hsps⟩ := hof.sps
      have hnn : ms = n2 := by have h1 := hsps.1; have h2 := (HC.out w (Below.refl _ _)).2.2.2.1; omega
      subst hnn
      have hn1 : n1 ≤ 120 := by have h1 := (HC.out w (Below.refl _ _)).1; have := hof.data.1; omega
      have hdl : Hid (f.data.length = n1) := (HC.out w (Below.refl _ _)).1
      have HRI : Hid (∀ W, Below w.heap.size w W → Calls Tryd.prog 18 #[.agg #[.int .i64 f.k, .int .i64 f.id, .int .i64 f.off, .int .i64 f.a, .int .i64 f.b, .int .i64 f.note, .bool f.fin, .slice A1 n1 c1, .slice A2 ms c2]] W fun e w' => e = .returned (.bool true) ∧ Below W.heap.size W w') := fun W hW => by
        have := right_any f W.heap.size A1 n1 c1 A2 ms c2 W (HC.out W hW) (Nat.le_refl _) (by omega) (by omega)
        rw [right_ok HOF.out] at this
        exact this
      have HNU : Hid (∀ W, Below w.heap.size w W → Calls Tryd.prog 35 #[.agg #[.int .i64 f.k, .int .i64 f.id, .int .i64 f.off, .int .i64 f.a, .int .i64 f.b, .int .i64 f.note, .bool f.fin, .slice A1 n1 c1, .slice A2 ms c2]] W (NumsP f W)) := fun W hW => numbers_any f A1 n1 c1 A2 ms c2 W (HC.out W hW) hsps hms8 (by omega)
      clear cc hcell hf hfc hof hsps
      go_wp2_with fail
      refine (HRI.out _ (HK.out.2.2.alloc HK.out.2.2.size _)).mono ?_
      rintro e w1 ⟨rfl, hb1⟩
      obtain ⟨hc1, hf1⟩ := bcell hb1
      have hz1 : wr.heap.size < w1.heap.size := by have := hb1.size; simp at this; omega
      have HB1 : Hid (Below wr.heap.size wr w1) := ((Below.refl _ _).alloc (Nat.le_refl _) _).trans (hb1.mono (by simp))
      have HX1 : Hid (Below (wr.heap.size + 1) (wr.alloc (.cells #[.int .i64 f.k, .int .i64 f.id, .int .i64 f.off, .int .i64 f.a, .int .i64 f.b, .int .i64 f.note, .bool f.fin, .slice A1 n1 c1, .slice A2 ms c2] 26)) w1) := hb1.mono (by simp)
      clear hb1
      go_wp2_with fail
      refine (HNU.out _ (HK.out.2.2.trans (HB1.out.mono HK.out.2.2.size))).mono ?_
      rintro e w2 ⟨A3, n3, c3, rfl, hnl, hn24, hno, hb2⟩
      have HNO := Lib.hid hno
      have HNL := Lib.hid hnl
      have HB2 : Hid (Below wr.heap.size wr w2) := HB1.out.trans (hb2.mono (Nat.le_of_lt hz1))
      have HX2 : Hid (Below (wr.heap.size + 1) (wr.alloc (.cells #[.int .i64 f.k, .int .i64 f.id, .int .i64 f.off, .int .i64 f.a, .int .i64 f.b, .int .i64 f.note, .bool f.fin, .slice A1 n1 c1, .slice A2 ms c2] 26)) w2) := HX1.out.trans (hb2.mono hz1)
      clear hb2 hno hnl hc1 hf1
      have HSW : Hid (sumW (nums f) ≤ 192) := by have := sumW_le (nums f); have := HNL.out; show _ ≤ _; omega
      have HPUT : Hid (Calls Tryd.prog 34 #[.slice none 0 0, .slice A3 n3 c3] w2 fun e w' => ∃ v', e = .returned v' ∧ w'.ownsRow w2.heap.size 5 1 v' (encsB (nums f)).length (bv (encsB (nums f))) ∧ Below w2.heap.size w2 w') := by
        have ho := HNO.out
        have e3 := HNL.out
        subst e3
        obtain ⟨_, _, e, _, _, hokA, hrd⟩ := own_form ho
        simp only [Value.slice.injEq] at e
        obtain ⟨rfl, _, rfl⟩ := e
        rw [Nat.mul_one] at hrd
        have := put_ok none 0 0 [] 0 (nums f) w2.heap.size A3 c3 w2 (HT.out.below (HK.out.2.2.trans (HB2.out.mono HK.out.2.2.size)) HT.out.lt) ⟨rfl, fun h => by omega⟩ (Nat.zero_le _) (fun u hu => by cases hu) hrd (Nat.le_refl _) hokA (by omega) (nums_may HOF.out) (by have := HSW.out; omega)
        simp only [Nat.zero_add, List.nil_append, encs_bv] at this
        rw [encsB_len]
        exact this
      go_wp2_with fail
      refine HPUT.out.mono ?_
      rintro e w3 ⟨v3, rfl, ho3, hb3⟩
      obtain ⟨A4, c4, e4, _, _, _, hrd4⟩ := own_form ho3
      subst e4
      obtain ⟨l4, hl4⟩ : ∃ l, Hid ((encsB (nums f)).length = l) := ⟨_, rfl⟩
      rw [hl4.out] at hrd4 ⊢
      have HRD4 := Lib.hid hrd4
      have hl4b : l4 ≤ 192 := by have h1 := HSW.out; have h2 := encsB_len (nums f); have h3 := hl4.out; omega
      have HB3 : Hid (Below wr.heap.size wr w3) := HB2.out.trans (hb3.mono HB2.out.size)
      have HX3 : Hid (Below (wr.heap.size + 1) (wr.alloc (.cells #[.int .i64 f.k, .int .i64 f.id, .int .i64 f.off, .int .i64 f.a, .int .i64 f.b, .int .i64 f.note, .bool f.fin, .slice A1 n1 c1, .slice A2 ms c2] 26)) w3) := HX2.out.trans (hb3.mono (by have := HX2.out.size; simpa using this))
      have HO3 : Hid (w3.ownsRow w.heap.size 5 1 (.slice A' m c') m (bv (layF (fs.take k)))) := own_below HK.out.2.1 HB3.out
      have HBW3 : Hid (Below w.heap.size w w3) := HK.out.2.2.trans (HB3.out.mono HK.out.2.2.size)
      clear ho3 hb3 hrd4 hz1
      go_wp2_with (at_builtin; refine wpList_app _ rfl (.tmp 16) (.tmp 19) 24 rfl w.heap.size 5 i0 (.int .u8 0) 1 1 Tryd.underlying24 HI.out.1 HI.out.2.1 HI.out.2.2.1 HI.out.2.2.2 rfl (by decide) (.slice A' m c') m (bv (layF (fs.take k))) rfl HO3.out w3.heap.size A4 l4 c4 (bv (encsB (nums f))) rfl HRD4.out (ones_bv _) (by unfold maxLen; omega) (by omega) HBW3.out.size ?_)
      intro v4 w4 ho4 hg4
      obtain ⟨A5, c5, e5, _⟩ := own_form ho4
      subst e5
      have HO4 := Lib.hid ho4
      have HBW4 : Hid (Below w.heap.size w w4) := HBW3.out.grown hg4 HBW3.out.size (fun g hg => (HO3.out.lt g hg).1)
      have hcd : w4.cell? ⟨wr.heap.size, 7, none⟩ = some (.slice A1 n1 c1) := by
        have h1 : w3.cell? ⟨wr.heap.size, 7, none⟩ = some (.slice A1 n1 c1) := by
          rw [HX3.out.cell (p := ⟨wr.heap.size, 7, none⟩) (Nat.lt_succ_self _)]
          simp [go_sem]
        rw [← h1]
        refine World.cell?_of_block (w := w3) (hg4.block wr.heap.size (by have := HX3.out.size; simp at this; omega) (fun e => ?_))
        have := HK.out.2.1.lt _ e.symm
        omega
      have HRD5 : Hid (Rd w4 w4.heap.size A1 n1 (bv f.data)) := (HC.out w4 HBW4.out).2.2.1
      clear ho4 hg4
      go_wp2_with (at_builtin; refine wpList_app _ rfl (.tmp 21) (.tmp 23) 24 rfl w.heap.size 5 i0 (.int .u8 0) 1 1 Tryd.underlying24 HI.out.1 HI.out.2.1 HI.out.2.2.1 HI.out.2.2.2 rfl (by decide) (.slice A5 (m + l4) c5) (m + l4) (bv (layF (fs.take k)) ++ bv (encsB (nums f))) rfl HO4.out w4.heap.size A1 n1 c1 (bv f.data) rfl (by rw [Nat.mul_one]; exact HRD5.out) (ones_bv _) (by unfold maxLen; omega) (by omega) HBW4.out.size ?_)
      intro v5 w5 ho5 hg5
      obtain ⟨A6, c6, e6, _⟩ := own_form ho5
      subst e6
      have HN : Hid (LayW w w5 fs (k + 1) (.slice A6 (m + l4 + n1) c6) (m + l4 + n1)) := by
        refine ⟨?_, ?_, HBW4.out.grown hg5 HBW4.out.size (fun g hg => (HO4.out.lt g hg).1)⟩
        · rw [HSN.out, List.length_append, HK.out.1]; unfold encF; rw [List.length_append, hl4.out, hdl.out]; omega
        · rw [HSN.out]; unfold encF; rw [bv_app, bv_app]; exact ho5
      have hmm : m + l4 + n1 ≤ 312 * (k + 1) := by omega
      clear ho5 hg5
      go_wp2_with fail
      go_roundw
      case rel => exact ⟨k + 1, m + l4 + n1, by omega, hmm, by go_num, ⟨_, _, rfl⟩, HN⟩
      case measure => simp [intOf]; omega
    · have hlti : ¬ (k : Int) < (n : Int) := by omega
      obtain rfl : k = n := by omega
      have htk : fs.take k = fs := List.take_of_length_le (by rw [HH.out.1]; exact Nat.le_refl _)
      have HE : Hid (LayP fs w (.returned (.tuple #[.slice A' m c', .int .i64 0])) wr) := by
        have h := HK.out
        unfold LayW at h
        rw [htk] at h
        exact ⟨A', m, c', rfl, h.1, h.2.1, h.2.2⟩
      clear HK htk
      go_wp2_with fail
      go_ret2
      exact HE.out

set_option maxRecDepth 100000 in
set_option maxHeartbeats 4000000 in
theorem eqf_same (fs gs : List Fr) (hfg : fs.map bare = gs.map bare) (A A' : Option Addr) (n c c' : Nat) (w : World) (h : Frs w A n c fs) (h' : Frs w A' n c' gs) (hn : n ≤ 1000000) (hsm : ∀ f ∈ fs, f.spans.length ≤ 16) :
    Calls Tryd.prog 37 #[.slice A n c, .slice A' n c', .func (.func 38) #[] #[]] w fun e w' => e = .returned (.bool true) ∧ Below w.heap.size w w' := by
  have HH := Lib.hid h
  have HH' := Lib.hid h'
  have HFG := Lib.hid hfg
  have HSP := Lib.hid hsm
  have hci : (n : Int) ≤ (c : Int) := by have := h.2.1; omega
  have hci' : (n : Int) ≤ (c' : Int) := by have := h'.2.1; omega
  have hni : (n : Int) ≤ 1000000 := by omega
  clear h h' hfg hsm
  go_enter Tryd.func37, Tryd.ntmps37
  go_wp2_with fail
  go_loopw [17] (fun i wr => ∃ k : Nat, k ≤ n ∧ i = .int .i64 k ∧ Hid (Below w.heap.size w wr)) (fun i _ => n - (intOf i).toNat)
  case atStart => exact ⟨0, Nat.zero_le _, rfl, Below.refl _ _⟩
  case round =>
    obtain ⟨k, hk, rfl, HB⟩ := hrel
    by_cases hlt : k < n
    · have hlti : (k : Int) < (n : Int) := by omega
      obtain ⟨b, off, f, A1, n1, c1, A2, n2, c2, hA, hbl, hf, hfc, hcell⟩ := HH.out.get k hlt
      subst hA
      obtain ⟨b', off', g, A1', n1', c1', A2', n2', c2', hA', hbl', hf', hfc', hcell'⟩ := HH'.out.get k hlt
      subst hA'
      have hbe : bare f = bare g := by
        have h1 : (fs.map bare)[k]? = some (bare f) := by rw [List.getElem?_map, hf]; rfl
        have h2 : (gs.map bare)[k]? = some (bare g) := by rw [List.getElem?_map, hf']; rfl
        rw [HFG.out, h2] at h1
        exact (Option.some.inj h1).symm
      obtain ⟨ek, ei, eo, ea, eb, ef, ed, es⟩ := bare_inj hbe
      have hsl := HSP.out f (List.mem_of_getElem? hf)
      obtain ⟨p1, p2, p3, p4, p5⟩ := hfc.parts
      obtain ⟨q1, q2, q3, q4, q5⟩ := hfc'.parts
      rw [ed] at q1 q4
      rw [es] at q2 q5
      obtain rfl : n1' = n1 := by omega
      obtain rfl : n2' = n2 := by omega
      have HSM : Hid (∀ W, Below w.heap.size w W → Calls Tryd.prog 38 #[.agg #[.int .i64 f.k, .int .i64 f.id, .int .i64 f.off, .int .i64 f.a, .int .i64 f.b, .int .i64 f.note, .bool f.fin, .slice A1 n1' c1, .slice A2 n2' c2], .agg #[.int .i64 f.k, .int .i64 f.id, .int .i64 f.off, .int .i64 f.a, .int .i64 f.b, .int .i64 g.note, .bool f.fin, .slice A1' n1' c1', .slice A2' n2' c2']] W fun e w' => e = .returned (.bool true) ∧ Below W.heap.size W w') := fun W hW =>
        same_same f.k f.id f.off f.a f.b f.note g.note f.fin f.data f.spans w.heap.size w.heap.size A1 A1' A2 A2' n1' c1 c1' n2' c2 c2' W (p4.below hW (Nat.le_refl _)) (q4.below hW (Nat.le_refl _)) (p5.below hW (Nat.le_refl _)) (q5.below hW (Nat.le_refl _)) hW.size hW.size (by omega) p3 q3
      have cc : ∀ j, wr.cell? ⟨b, off + k * 9 + j, none⟩ = w.cell? ⟨b, off + k * 9 + j, none⟩ := fun j => HB.out.cell (p := ⟨b, off + k * 9 + j, none⟩) hbl
      have hyF : Hid (Below w.heap.size w (wr.alloc (.cells #[.int .i64 f.k, .int .i64 f.id, .int .i64 f.off, .int .i64 f.a, .int .i64 f.b, .int .i64 f.note, .bool f.fin, .slice A1 n1' c1, .slice A2 n2' c2] 26))) := HB.out.alloc HB.out.size _
      have cc' : ∀ j, (wr.alloc (.cells #[.int .i64 f.k, .int .i64 f.id, .int .i64 f.off, .int .i64 f.a, .int .i64 f.b, .int .i64 f.note, .bool f.fin, .slice A1 n1' c1, .slice A2 n2' c2] 26)).cell? ⟨b', off' + k * 9 + j, none⟩ = w.cell? ⟨b', off' + k * 9 + j, none⟩ := fun j => hyF.out.cell (p := ⟨b', off' + k * 9 + j, none⟩) hbl'
      have l0 : wr.cell? ⟨b, off + k * 9, none⟩ = some (.int .i64 f.k) := (cc 0).trans (hcell 0 _ rfl)
      have l1 : wr.cell? ⟨b, off + k * 9 + 1, none⟩ = some (.int .i64 f.id) := (cc 1).trans (hcell 1 _ rfl)
      have l2 : wr.cell? ⟨b, off + k * 9 + 2, none⟩ = some (.int .i64 f.off) := (cc 2).trans (hcell 2 _ rfl)
      have l3 : wr.cell? ⟨b, off + k * 9 + 3, none⟩ = some (.int .i64 f.a) := (cc 3).trans (hcell 3 _ rfl)
      have l4 : wr.cell? ⟨b, off + k * 9 + 4, none⟩ = some (.int .i64 f.b) := (cc 4).trans (hcell 4 _ rfl)
      have l5 : wr.cell? ⟨b, off + k * 9 + 5, none⟩ = some (.int .i64 f.note) := (cc 5).trans (hcell 5 _ rfl)
      have l6 : wr.cell? ⟨b, off + k * 9 + 6, none⟩ = some (.bool f.fin) := (cc 6).trans (hcell 6 _ rfl)
      have l7 : wr.cell? ⟨b, off + k * 9 + 7, none⟩ = some (.slice A1 n1' c1) := (cc 7).trans (hcell 7 _ rfl)
      have l8 : wr.cell? ⟨b, off + k * 9 + 8, none⟩ = some (.slice A2 n2' c2) := (cc 8).trans (hcell 8 _ rfl)
      have m0 : (wr.alloc (.cells #[.int .i64 f.k, .int .i64 f.id, .int .i64 f.off, .int .i64 f.a, .int .i64 f.b, .int .i64 f.note, .bool f.fin, .slice A1 n1' c1, .slice A2 n2' c2] 26)).cell? ⟨b', off' + k * 9, none⟩ = some (.int .i64 f.k) := by have h := (cc' 0).trans (hcell' 0 _ rfl); rw [ek] at h; exact h
      have m1 : (wr.alloc (.cells #[.int .i64 f.k, .int .i64 f.id, .int .i64 f.off, .int .i64 f.a, .int .i64 f.b, .int .i64 f.note, .bool f.fin, .slice A1 n1' c1, .slice A2 n2' c2] 26)).cell? ⟨b', off' + k * 9 + 1, none⟩ = some (.int .i64 f.id) := by have h := (cc' 1).trans (hcell' 1 _ rfl); rw [ei] at h; exact h
      have m2 : (wr.alloc (.cells #[.int .i64 f.k, .int .i64 f.id, .int .i64 f.off, .int .i64 f.a, .int .i64 f.b, .int .i64 f.note, .bool f.fin, .slice A1 n1' c1, .slice A2 n2' c2] 26)).cell? ⟨b', off' + k * 9 + 2, none⟩ = some (.int .i64 f.off) := by have h := (cc' 2).trans (hcell' 2 _ rfl); rw [eo] at h; exact h
      have m3 : (wr.alloc (.cells #[.int .i64 f.k, .int .i64 f.id, .int .i64 f.off, .int .i64 f.a, .int .i64 f.b, .int .i64 f.note, .bool f.fin, .slice A1 n1' c1, .slice A2 n2' c2] 26)).cell? ⟨b', off' + k * 9 + 3, none⟩ = some (.int .i64 f.a) := by have h := (cc' 3).trans (hcell' 3 _ rfl); rw [ea] at h; exact h
      have m4 : (wr.alloc (.cells #[.int .i64 f.k, .int .i64 f.id, .int .i64 f.off, .int .i64 f.a, .int .i64 f.b, .int .i64 f.note, .bool f.fin, .slice A1 n1' c1, .slice A2 n2' c2] 26)).cell? ⟨b', off' + k * 9 + 4, none⟩ = some (.int .i64 f.b) := by have h := (cc' 4).trans (hcell' 4 _ rfl); rw [eb] at h; exact h
      have m5 : (wr.alloc (.cells #[.int .i64 f.k, .int .i64 f.id, .int .i64 f.off, .int .i64 f.a, .int .i64 f.b, .int .i64 f.note, .bool f.fin, .slice A1 n1' c1, .slice A2 n2' c2] 26)).cell? ⟨b', off' + k * 9 + 5, none⟩ = some (.int .i64 g.note) := (cc' 5).trans (hcell' 5 _ rfl)
      have m6 : (wr.alloc (.cells #[.int .i64 f.k, .int .i64 f.id, .int .i64 f.off, .int .i64 f.a, .int .i64 f.b, .int .i64 f.note, .bool f.fin, .slice A1 n1' c1, .slice A2 n2' c2] 26)).cell? ⟨b', off' + k * 9 + 6, none⟩ = some (.bool f.fin) := by have h := (cc' 6).trans (hcell' 6 _ rfl); rw [ef] at h; exact h
      have m7 : (wr.alloc (.cells #[.int .i64 f.k, .int .i64 f.id, .int .i64 f.off, .int .i64 f.a, .int .i64 f.b, .int .i64 f.note, .bool f.fin, .slice A1 n1' c1, .slice A2 n2' c2] 26)).cell? ⟨b', off' + k * 9 + 7, none⟩ = some (.slice A1' n1' c1') := (cc' 7).trans (hcell' 7 _ rfl)
      have m8 : (wr.alloc (.cells #[.int .i64 f.k, .int .i64 f.id, .int .i64 f.off, .int .i64 f.a, .int .i64 f.b, .int .i64 f.note, .bool f.fin, .slice A1 n1' c1, .slice A2 n2' c2] 26)).cell? ⟨b', off' + k * 9 + 8, none⟩ = some (.slice A2' n2' c2') := (cc' 8).trans (hcell' 8 _ rfl)
      clear cc cc' hcell hcell' hf hf' hfc hfc' hbe ek ei eo ea eb ef ed es p1 p2 p3 p4 p5 q1 q2 q3 q4 q5 hsl
      go_wp2_with fail
      have hba := hyF.out.alloc hyF.out.size (.cells #[.int .i64 f.k, .int .i64 f.id, .int .i64 f.off, .int .i64 f.a, .int .i64 f.b, .int .i64 g.note, .bool f.fin, .slice A1' n1' c1', .slice A2' n2' c2'] 26)
      have HBA := Lib.hid hba
      clear hba
      refine (HSM.out _ HBA.out).mono ?_
      rintro e w1 ⟨rfl, hb⟩
      have HB1 : Hid (Below w.heap.size w w1) := HBA.out.trans (hb.mono HBA.out.size)
      clear hb
      go_wp2_with fail
      go_roundw
      case rel => exact ⟨k + 1, by omega, by go_num, HB1⟩
      case measure => simp [intOf]; omega
    · have hlti : ¬ (k : Int) < (n : Int) := by omega
      go_wp2_with fail
      go_ret
      exact ⟨rfl, HB.out⟩

theorem same_ok (fs gs : List Fr) (hfg : fs.map bare = gs.map bare) (A A' : Option Addr) (n c c' : Nat) (w : World) (h : Frs w A n c fs) (h' : Frs w A' n c' gs) (hn : n ≤ 1000000) (hsm : ∀ f ∈ fs, f.spans.length ≤ 16) :
    Calls Tryd.prog 15 #[.slice A n c, .slice A' n c'] w fun e w' => e = .returned (.bool true) ∧ Below w.heap.size w w' := by
  have HE := Lib.hid (eqf_same fs gs hfg A A' n c c' w h h' hn hsm)
  clear h h' hfg hsm
  go_enter Tryd.func15, Tryd.ntmps15
  go_wp2_with fail
  refine HE.out.mono ?_
  rintro e w1 ⟨rfl, hb⟩
  have HB := Lib.hid hb
  clear hb
  go_wp2_with fail
  go_ret
  exact ⟨rfl, HB.out⟩
end Go.Proofs.YtkphmgfjlbdpgaaDoor.Rx
