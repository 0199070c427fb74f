/- Right of package frame: a contract. Conditions: as the theorem lists them. -/
import Derived.Test.YtoglpjgmnojdjaaF4
set_option linter.unusedSimpArgs false
set_option linter.unusedVariables false
namespace Go.Proofs.Ytoglpjgmnojdjaa
open Go Go.RowKit

/-- A frame, plainly: its spans one behind the other, first and last. -/
structure Fr where
  k : Int
  id : Int
  off : Int
  a : Int
  b : Int
  note : Int
  fin : Bool
  data : List Nat
  spans : List Int

def rightB (f : Fr) : Bool :=
  kn f.k && rnB f.id f.a f.off f.b && (bits .andNot .i64 (carI (carB f.id f.off f.a f.b f.fin f.data.length (f.spans.length / 2)) 7) (nm f.k : Int) == 0) && rdB f.k f.off f.data.length && ((bits .and .i64 (nm f.k : Int) 64 == 0) || rsB f.spans (f.spans.length / 2))

/-- A value that reads as a frame. -/
def IsFr (w : World) (B : Nat) (f : Fr) (A : Option Addr) (n c : Nat) (A2 : Option Addr) (n2 c2 : Nat) : Prop :=
  f.data.length = n ∧ n ≤ c ∧ Rd w B A n (bv f.data) ∧ f.spans.length = n2 * 2 ∧ n2 ≤ c2 ∧ Rd w B A2 (n2 * 2) (ints f.spans)

theorem IsFr.below {w w' : World} {B B' : Nat} {f : Fr} {A : Option Addr} {n c : Nat} {A2 : Option Addr} {n2 c2 : Nat} (h : IsFr w B f A n c A2 n2 c2) (hb : Below B' w w') (hB : B ≤ B') : IsFr w' B f A n c A2 n2 c2 :=
  ⟨h.1, h.2.1, h.2.2.1.below hb hB, h.2.2.2.1, h.2.2.2.2.1, h.2.2.2.2.2.below hb hB⟩

def frA (f : Fr) (A : Option Addr) (n c : Nat) (A2 : Option Addr) (n2 c2 : Nat) : Value := .agg #[.int .i64 f.k, .int .i64 f.id, .int .i64 f.off, .int .i64 f.a, .int .i64 f.b, .int .i64 f.note, .bool f.fin, .slice A n c, .slice A2 n2 c2]

set_option maxHeartbeats 4000000 in
theorem right_any (f : Fr) (B : Nat) (A : Option Addr) (n c : Nat) (A2 : Option Addr) (n2 c2 : Nat) (w : World) (h : IsFr w B f A n c A2 n2 c2) (hB : B ≤ w.heap.size) (hn : n ≤ 140737488355328) (hn2 : n2 ≤ 17592186044416) :
    Calls Try.prog 33 #[frA f A n c A2 n2 c2] w fun e w' => e = .returned (.bool (rightB f)) ∧ Below w.heap.size w w' := by
  obtain ⟨k, id, off, a, b, note, fin, data, spans⟩ := f
  obtain ⟨g1, g2, g3, g4, g5, g6⟩ := h
  simp only at g1 g3 g4 g6
  have hm2 : spans.length / 2 = n2 := by omega
  have HNA := Lib.hid (names_any k)
  have HRN := Lib.hid (fun W => rnums_any k id off a b note fin A n c A2 n2 c2 W)
  have HCA := Lib.hid (fun W => carried_any k id off a b note fin A n c A2 n2 c2 W hn (by omega))
  have HRD := Lib.hid (fun W => rdata_any k id off a b note fin A n c A2 n2 c2 W hn)
  have HRS : Hid (∀ W, Below w.heap.size w W → Calls Try.prog 53 #[.slice A2 n2 c2] W fun e w' => e = .returned (.bool (rsB spans n2)) ∧ Below W.heap.size W w') := fun W hW => rspans_any spans n2 B A2 c2 W g4 (g6.below hW hB) (Nat.le_trans hB hW.size) hn2 g5
  have HR : Hid (rightB ⟨k, id, off, a, b, note, fin, data, spans⟩ = (kn k && rnB id a off b && (bits .andNot .i64 (carI (carB id off a b fin n n2) 7) (nm k : Int) == 0) && rdB k off n && ((bits .and .i64 (nm k : Int) 64 == 0) || rsB spans n2))) := by
    show _ = _
    unfold rightB
    simp only [hm2, g1]
  clear g1 g2 g3 g4 g5 g6 hm2 hB
  obtain ⟨ck, hck⟩ : ∃ x, Hid (kn k = x) := ⟨_, rfl⟩
  obtain ⟨crn, hcrn⟩ : ∃ x, Hid (rnB id a off b = x) := ⟨_, rfl⟩
  obtain ⟨ca, hca⟩ : ∃ x, Hid (carI (carB id off a b fin n n2) 7 = x) := ⟨_, rfl⟩
  obtain ⟨crd, hcrd⟩ : ∃ x, Hid (rdB k off n = x) := ⟨_, rfl⟩
  obtain ⟨crs, hcrs⟩ : ∃ x, Hid (rsB spans n2 = x) := ⟨_, rfl⟩
  obtain ⟨N, hN⟩ : ∃ x, Hid ((nm k : Int) = x) := ⟨_, rfl⟩
  rw [hck.out, hcrn.out, hca.out, hcrd.out, hcrs.out, hN.out] at HR
  rw [hck.out, hN.out] at HNA
  rw [hcrn.out] at HRN
  rw [hca.out] at HCA
  rw [hcrd.out] at HRD
  rw [hcrs.out] at HRS
  rw [HR.out]
  unfold frA
  go_enter Try.func33, Try.ntmps33
  go_wp2_with fail
  refine (HNA.out _).mono ?_
  rintro e w' ⟨rfl, rfl⟩
  cases ck
  ·
    go_wp2_with fail
    go_ret
    exact ⟨rfl, (Below.refl _ _).alloc (Nat.le_refl _) _⟩
  ·
    go_wp2_with fail
    refine (HRN.out _).mono ?_
    rintro e w1 ⟨rfl, hb1⟩
    obtain ⟨hc1, hf1⟩ := bcell hb1
    have hz1 : w.heap.size < w1.heap.size := by have := hb1.size; (try simp at this); omega
    have HB1 : Hid (Below w.heap.size w w1) := ((Below.refl _ _).alloc (Nat.le_refl _) _).trans (hb1.mono (by simp))
    clear hb1
    cases crn
    ·
      go_wp2_with fail
      go_ret
      exact ⟨ret_bool (by rfl), HB1.out⟩
    ·
      go_wp2_with fail
      refine (HCA.out _).mono ?_
      rintro e w2 ⟨rfl, hb2⟩
      obtain ⟨hc2, hf2⟩ := bcell hb2
      have hz2 : w.heap.size < w2.heap.size := by have := hb2.size; (try simp at this); omega
      have HB2 : Hid (Below w.heap.size w w2) := HB1.out.trans (hb2.mono (Nat.le_of_lt hz1))
      clear hb2
      cases cz : (bits .andNot .i64 ca N == 0)
      ·
        go_wp2_with fail
        go_ret
        exact ⟨ret_bool (by rw [cz]; rfl), HB2.out⟩
      ·
        go_wp2_with fail
        refine (HRD.out _).mono ?_
        rintro e w3 ⟨rfl, hb3⟩
        obtain ⟨hc3, hf3⟩ := bcell hb3
        have hz3 : w.heap.size < w3.heap.size := by have := hb3.size; (try simp at this); omega
        have HB3 : Hid (Below w.heap.size w w3) := HB2.out.trans (hb3.mono (Nat.le_of_lt hz2))
        clear hb3
        cases crd
        ·
          go_wp2_with fail
          go_ret
          exact ⟨ret_bool (by rw [cz]; rfl), HB3.out⟩
        ·
          cases cs : (bits .and .i64 N 64 == 0)
          ·
            go_wp2_with fail
            refine (HRS.out _ HB3.out).mono ?_
            rintro e w4 ⟨rfl, hb4⟩
            obtain ⟨hc4, hf4⟩ := bcell hb4
            have hz4 : w.heap.size < w4.heap.size := by have := hb4.size; (try simp at this); omega
            have HB4 : Hid (Below w.heap.size w w4) := HB3.out.trans (hb4.mono (Nat.le_of_lt hz3))
            clear hb4
            cases crs
            ·
              go_wp2_with fail
              go_ret
              exact ⟨ret_bool (by rw [cz, cs]; rfl), HB4.out⟩
            ·
              go_wp2_with fail
              go_ret
              exact ⟨ret_bool (by rw [cz, cs]; rfl), HB4.out⟩
          ·
            go_wp2_with fail
            go_ret
            exact ⟨ret_bool (by rw [cz, cs]; rfl), HB3.out⟩
end Go.Proofs.Ytoglpjgmnojdjaa
