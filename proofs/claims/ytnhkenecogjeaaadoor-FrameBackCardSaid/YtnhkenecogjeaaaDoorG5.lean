/- The hand's Frame, of a raw one that is not bent, of whatever kind; a frame in memory. Conditions: as each theorem lists them. -/
import Derived.Test.YtnhkenecogjeaaaDoorG4
namespace Go.Proofs.YtnhkenecogjeaaaDoor
open Go Go.RowKit

theorem frame_any (k id off a b : Int) (fin : Bool) (A : Option Addr) (bs : List Nat) (c : Nat) (A2 : Option Addr) (l : List Int) (c2 : Nat) (w : World) (hid : -9223372036854775808 ≤ id ∧ id ≤ 9223372036854775807) (hoff : -9223372036854775808 ≤ off ∧ off ≤ 9223372036854775807)
    (ha : -9223372036854775808 ≤ a ∧ a ≤ 9223372036854775807) (hb : -9223372036854775808 ≤ b ∧ b ≤ 9223372036854775807)
    (hbs : Rd w w.heap.size A bs.length (bv bs)) (hbc : bs.length ≤ c) (hbm : bs.length ≤ 140737488355328) (hblt : ∀ x ∈ bs, x < 256) (hl : Rd w w.heap.size A2 l.length (ints l)) (hlc : l.length ≤ c2) (hlm : l.length ≤ 17592186044416) (hllt : ∀ n ∈ l, -9223372036854775808 ≤ n ∧ n ≤ 9223372036854775807) :
    Calls Tryd.prog 29 #[.agg #[.int .i64 k, .int .i64 id, .int .i64 off, .int .i64 a, .int .i64 b, .int .i64 0, .bool fin, .slice A bs.length c, .slice A2 l.length c2]] w (FrameP w) := by
  have h0 := Int.emod_nonneg k (show (12 : Int) ≠ 0 by decide)
  have h1 := Int.emod_lt_of_pos k (show (0 : Int) < 12 by decide)
  have hk : k % 12 = 0 ∨ k % 12 = 1 ∨ k % 12 = 2 ∨ k % 12 = 3 ∨ k % 12 = 4 ∨ k % 12 = 5 ∨ k % 12 = 6 ∨ k % 12 = 7 ∨ k % 12 = 8 ∨ k % 12 = 9 ∨ k % 12 = 10 ∨ k % 12 = 11 := by omega
  rcases hk with h | h | h | h | h | h | h | h | h | h | h | h
  · exact frame_1 k id off a b fin A bs c A2 l c2 w h
  · exact frame_2 k id off a b fin A bs c A2 l c2 w h hl hlc hlm hllt
  · exact frame_3 k id off a b fin A bs c A2 l c2 w h hid.1 hid.2 hoff.1 hoff.2 hbs hbc hbm hblt
  · exact frame_4 k id off a b fin A bs c A2 l c2 w h ha.1 ha.2 hb.1 hb.2 hid.1 hid.2 hoff.1 hoff.2
  · exact frame_5 k id off a b fin A bs c A2 l c2 w h ha.1 ha.2 hid.1 hid.2
  · exact frame_6 k id off a b fin A bs c A2 l c2 w h ha.1 ha.2
  · exact frame_7 k id off a b fin A bs c A2 l c2 w h ha.1 ha.2 hid.1 hid.2
  · exact frame_8 k id off a b fin A bs c A2 l c2 w h ha.1 ha.2
  · exact frame_9 k id off a b fin A bs c A2 l c2 w h hbs hbc hbm hblt
  · exact frame_10 k id off a b fin A bs c A2 l c2 w h hid.1 hid.2
  · exact frame_11 k id off a b fin A bs c A2 l c2 w h hid.1 hid.2
  · exact frame_12 k id off a b fin A bs c A2 l c2 w h ha.1 ha.2

/-! ### Frames in memory -/

def frC (f : Fr) (vd vs : Value) : List Value := [.int .i64 f.k, .int .i64 f.id, .int .i64 f.off, .int .i64 f.a, .int .i64 f.b, .int .i64 f.note, .bool f.fin, vd, vs]

/-- Nine cells that read as a frame; its bytes and spans lie in blocks of their own kinds. -/
def FrC (w : World) (f : Fr) (cs : List Value) : Prop :=
  ∃ A n c A2 n2 c2, cs = frC f (.slice A n c) (.slice A2 n2 c2) ∧ f.data.length = n ∧ f.spans.length = n2 * 2 ∧ w.ownsRow 0 5 1 (.slice A n c) n (bv f.data) ∧ w.ownsRow 0 22 2 (.slice A2 n2 c2) n2 (ints f.spans)

theorem FrOwn.cells {w : World} {lo : Nat} {f : Fr} {v : Value} (h : FrOwn w lo f v) : ∃ cs, v = .agg cs.toArray ∧ FrC w f cs := by
  obtain ⟨A, n, c, A2, n2, c2, rfl, h1, h2, h3, h4⟩ := h
  exact ⟨_, rfl, A, n, c, A2, n2, c2, rfl, h1, h2, own_base h3 (Nat.zero_le _), own_base h4 (Nat.zero_le _)⟩
theorem FrC.len {w : World} {f : Fr} {cs : List Value} (h : FrC w f cs) : cs.length = 9 := by
  obtain ⟨A, n, c, A2, n2, c2, rfl, _⟩ := h; rfl
theorem FrC.ones {w : World} {f : Fr} {cs : List Value} (h : FrC w f cs) : ones cs := fun u hu => by
  obtain ⟨A, n, c, A2, n2, c2, rfl, _⟩ := h
  simp only [frC, List.mem_cons, List.not_mem_nil, or_false] at hu
  rcases hu with rfl | rfl | rfl | rfl | rfl | rfl | rfl | rfl | rfl <;> rfl
theorem FrC.below {w w' : World} {f : Fr} {cs : List Value} (h : FrC w f cs) (hb : Below w.heap.size w w') : FrC w' f cs := by
  obtain ⟨A, n, c, A2, n2, c2, e, h1, h2, h3, h4⟩ := h
  exact ⟨A, n, c, A2, n2, c2, e, h1, h2, own_below h3 hb, own_below h4 hb⟩

/-- A row that is another type's is not this one's block. -/
theorem own_other {w : World} {base e e' size n g : Nat} {v : Value} {xs : List Value} (h : w.ownsRow base e size v n xs) {cur : Array Value} {fr : Nat × Nat} (hg : w.heap[g]? = some (.cells cur e' fr)) (hne : e ≠ e') : v.ownBlock ≠ some g := fun hv => by
  rcases h.2 with ⟨rfl, _⟩ | ⟨g', cap, cur', rfl, _, hh, _⟩
  · cases hv
  · simp only [Value.ownBlock, Option.some.injEq] at hv
    subst hv
    rw [hg] at hh
    simp only [Option.some.injEq, Obj.cells.injEq] at hh
    exact hne hh.2.1.symm

/-- The row of frames grows: those in it stay. -/
theorem FrC.grown {w w' : World} {f : Fr} {cs : List Value} (h : FrC w f cs) {row : Option Nat} (hg : w.grownBy w' row) (hr : ∀ g, row = some g → ∃ cur fr, w.heap[g]? = some (.cells cur 26 fr)) : FrC w' f cs := by
  obtain ⟨A, n, c, A2, n2, c2, e, h1, h2, h3, h4⟩ := h
  have key : ∀ {t size m : Nat} {v : Value} {xs : List Value}, w.ownsRow 0 t size v m xs → t ≠ 26 → w'.ownsRow 0 t size v m xs := fun ho hne => by
    refine ho.kept hg ?_
    cases row with
    | none => exact Classical.em _
    | some g =>
      obtain ⟨cur, fr, hh⟩ := hr g rfl
      have := own_other ho hh hne
      first | exact .inr (Ne.symm this) | exact .inr this | exact .inr (fun e => this e) | exact .inr (fun e => this e.symm)
  exact ⟨A, n, c, A2, n2, c2, e, h1, h2, key h3 (by decide), key h4 (by decide)⟩

def FrsC (w : World) : List Fr → List Value → Prop
  | [], cs => cs = []
  | f :: fs, cs => ∃ c1 c2, cs = c1 ++ c2 ∧ FrC w f c1 ∧ FrsC w fs c2
theorem FrsC.map {w w' : World} (hw : ∀ f cs, FrC w f cs → FrC w' f cs) : ∀ {fs : List Fr} {cs : List Value}, FrsC w fs cs → FrsC w' fs cs
  | [], _, h => h
  | _ :: _, _, ⟨c1, c2, e, h1, h2⟩ => ⟨c1, c2, e, hw _ _ h1, h2.map hw⟩
theorem FrsC.below {w w' : World} {fs : List Fr} {cs : List Value} (h : FrsC w fs cs) (hb : Below w.heap.size w w') : FrsC w' fs cs := h.map fun _ _ h => h.below hb
theorem FrsC.len {w : World} : ∀ {fs : List Fr} {cs : List Value}, FrsC w fs cs → cs.length = fs.length * 9
  | [], _, h => by cases h; rfl
  | f :: fs, _, ⟨c1, c2, e, h1, h2⟩ => by rw [e, List.length_append, h1.len, h2.len, List.length_cons]; omega
theorem FrsC.ones {w : World} : ∀ {fs : List Fr} {cs : List Value}, FrsC w fs cs → ones cs
  | [], _, h => by cases h; intro u hu; cases hu
  | f :: fs, _, ⟨c1, c2, e, h1, h2⟩ => fun u hu => by
    rw [e] at hu
    rcases List.mem_append.1 hu with h | h
    · exact h1.ones u h
    · exact h2.ones u h
theorem FrsC.app {w : World} : ∀ {fs gs : List Fr} {cs ds : List Value}, FrsC w fs cs → FrsC w gs ds → FrsC w (fs ++ gs) (cs ++ ds)
  | [], _, _, _, h, k => by cases h; exact k
  | f :: fs, _, _, _, ⟨c1, c2, e, h1, h2⟩, k => ⟨c1, c2 ++ _, by rw [e, List.append_assoc], h1, h2.app k⟩
theorem FrsC.one {w : World} {f : Fr} {cs : List Value} (h : FrC w f cs) : FrsC w [f] cs := ⟨cs, [], by simp, h, rfl⟩
/-- The k-th of them: its nine cells. -/
theorem FrsC.get {w : World} : ∀ {fs : List Fr} {cs : List Value} (k : Nat) (f : Fr), FrsC w fs cs → fs[k]? = some f → ∃ c, FrC w f c ∧ ∀ j, j < 9 → cs[k * 9 + j]? = c[j]?
  | [], _, k, f, h, hf => by simp at hf
  | g :: fs, _, 0, f, ⟨c1, c2, e, h1, h2⟩, hf => by
    simp only [List.getElem?_cons_zero, Option.some.injEq] at hf
    subst hf
    exact ⟨c1, h1, fun j hj => by rw [e, List.getElem?_append_left (by rw [h1.len]; omega), Nat.zero_mul, Nat.zero_add]⟩
  | g :: fs, _, k + 1, f, ⟨c1, c2, e, h1, h2⟩, hf => by
    obtain ⟨c, hc, hj⟩ := FrsC.get k f h2 (by simpa using hf)
    refine ⟨c, hc, fun j hj9 => ?_⟩
    rw [e, List.getElem?_append_right (by rw [h1.len]; omega), h1.len, ← hj j hj9]
    congr 1; omega
theorem FrsC.take {w : World} : ∀ {fs : List Fr} {cs : List Value} (k : Nat), FrsC w fs cs → FrsC w (fs.take k) (cs.take (k * 9))
  | [], _, k, h => by cases h; simp [FrsC]
  | g :: fs, _, 0, h => by simp [FrsC]
  | g :: fs, _, k + 1, ⟨c1, c2, e, h1, h2⟩ => by
    refine ⟨c1, c2.take (k * 9), ?_, h1, h2.take k⟩
    rw [e, List.take_append, h1.len, List.take_of_length_le (by rw [h1.len]; omega)]
    congr 2; omega
theorem FrsC.drop {w : World} : ∀ {fs : List Fr} {cs : List Value} (k : Nat), FrsC w fs cs → FrsC w (fs.drop k) (cs.drop (k * 9))
  | [], _, k, h => by cases h; simp [FrsC]
  | g :: fs, _, 0, h => by simpa using h
  | g :: fs, _, k + 1, ⟨c1, c2, e, h1, h2⟩ => by
    have e1 : c1.drop ((k + 1) * 9) = [] := List.drop_eq_nil_of_le (by rw [h1.len]; omega)
    have e2 : (c1 ++ c2).drop ((k + 1) * 9) = c2.drop (k * 9) := by
      rw [List.drop_append, e1, List.nil_append, h1.len]
      congr 1; omega
    rw [e, e2]
    exact h2.drop k

/-- A row of frames of the call's own. -/
def FrsOwn (w : World) (base : Nat) (v : Value) (fs : List Fr) : Prop := ∃ cs, w.ownsRow base 26 9 v fs.length cs ∧ FrsC w fs cs

theorem own_cells {w : World} {base e size n : Nat} {v : Value} {xs : List Value} (h : w.ownsRow base e size v n xs) : ∀ g, v.ownBlock = some g → ∃ cur fr, w.heap[g]? = some (.cells cur e fr) := fun g hg => by
  rcases h.2 with ⟨rfl, _⟩ | ⟨g', cap, cur', rfl, _, hh, _⟩
  · cases hg
  · simp only [Value.ownBlock, Option.some.injEq] at hg
    subst hg
    exact ⟨_, _, hh⟩

theorem FrsOwn.below {w w' : World} {base : Nat} {v : Value} {fs : List Fr} (h : FrsOwn w base v fs) (hb : Below w.heap.size w w') : FrsOwn w' base v fs := by
  obtain ⟨cs, h1, h2⟩ := h
  exact ⟨cs, own_below h1 hb, h2.below hb⟩
theorem FrsOwn.nil (w : World) (base : Nat) : FrsOwn w base (.slice none 0 0) [] := ⟨[], own_nil _ _ _ _, rfl⟩
end Go.Proofs.YtnhkenecogjeaaaDoor
