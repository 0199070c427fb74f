/- Joined texts. The hand's Frame, of a raw one that is not bent, of whatever kind; a frame in memory. Conditions: as each theorem lists them. The hand's Right: a contract. Conditions: as the theorem lists them. Elicits of package frame: a contract. Conditions: as the theorem lists them. An argument of raw frames, opened. Conditions: as each theorem lists them. -/
import Derived.Test.YtebfjphmlggacaaJ7
set_option linter.unusedSimpArgs false
set_option linter.unusedVariables false
set_option maxRecDepth 100000

namespace Go.Proofs.Ytebfjphmlggacaa
open Go Go.RowKit

theorem frame_any (k id off a b : Int) (fin : Bool) (A : Option Addr) (bs : List Nat) (c : Nat) (A2 : Option Addr) (l : List Int) (c2 : Nat) (w : World) (hid : -9223372036854775808 ≤ id ∧ id ≤ 9223372036854775807) (hoff : -9223372036854775808 ≤ off ∧ off ≤ 9223372036854775807)
    (ha : -9223372036854775808 ≤ a ∧ a ≤ 9223372036854775807) (hb : -9223372036854775808 ≤ b ∧ b ≤ 9223372036854775807)
    (hbs : Rd w w.heap.size A bs.length (bv bs)) (hbc : bs.length ≤ c) (hbm : bs.length ≤ 140737488355328) (hblt : ∀ x ∈ bs, x < 256) (hl : Rd w w.heap.size A2 l.length (ints l)) (hlc : l.length ≤ c2) (hlm : l.length ≤ 17592186044416) (hllt : ∀ n ∈ l, -9223372036854775808 ≤ n ∧ n ≤ 9223372036854775807) :
    Calls Try.prog 33 #[.agg #[.int .i64 k, .int .i64 id, .int .i64 off, .int .i64 a, .int .i64 b, .int .i64 0, .bool fin, .slice A bs.length c, .slice A2 l.length c2]] w (FrameP w) := by
  have h0 := Int.emod_nonneg k (show (12 : Int) ≠ 0 by decide)
  have h1 := Int.emod_lt_of_pos k (show (0 : Int) < 12 by decide)
  have hk : k % 12 = 0 ∨ k % 12 = 1 ∨ k % 12 = 2 ∨ k % 12 = 3 ∨ k % 12 = 4 ∨ k % 12 = 5 ∨ k % 12 = 6 ∨ k % 12 = 7 ∨ k % 12 = 8 ∨ k % 12 = 9 ∨ k % 12 = 10 ∨ k % 12 = 11 := by omega
  rcases hk with h | h | h | h | h | h | h | h | h | h | h | h
  · exact frame_1 k id off a b fin A bs c A2 l c2 w h
  · exact frame_2 k id off a b fin A bs c A2 l c2 w h hl hlc hlm hllt
  · exact frame_3 k id off a b fin A bs c A2 l c2 w h hid.1 hid.2 hoff.1 hoff.2 hbs hbc hbm hblt
  · exact frame_4 k id off a b fin A bs c A2 l c2 w h ha.1 ha.2 hb.1 hb.2 hid.1 hid.2 hoff.1 hoff.2
  · exact frame_5 k id off a b fin A bs c A2 l c2 w h ha.1 ha.2 hid.1 hid.2
  · exact frame_6 k id off a b fin A bs c A2 l c2 w h ha.1 ha.2
  · exact frame_7 k id off a b fin A bs c A2 l c2 w h ha.1 ha.2 hid.1 hid.2
  · exact frame_8 k id off a b fin A bs c A2 l c2 w h ha.1 ha.2
  · exact frame_9 k id off a b fin A bs c A2 l c2 w h hbs hbc hbm hblt
  · exact frame_10 k id off a b fin A bs c A2 l c2 w h hid.1 hid.2
  · exact frame_11 k id off a b fin A bs c A2 l c2 w h hid.1 hid.2
  · exact frame_12 k id off a b fin A bs c A2 l c2 w h ha.1 ha.2

/-! ### Frames in memory -/

def frC (f : Fr) (vd vs : Value) : List Value := [.int .i64 f.k, .int .i64 f.id, .int .i64 f.off, .int .i64 f.a, .int .i64 f.b, .int .i64 f.note, .bool f.fin, vd, vs]

/-- Nine cells that read as a frame; its bytes and spans lie in blocks of their own kinds. -/
def FrC (w : World) (f : Fr) (cs : List Value) : Prop :=
  ∃ A n c A2 n2 c2, cs = frC f (.slice A n c) (.slice A2 n2 c2) ∧ f.data.length = n ∧ f.spans.length = n2 * 2 ∧ w.ownsRow 0 5 1 (.slice A n c) n (bv f.data) ∧ w.ownsRow 0 29 2 (.slice A2 n2 c2) n2 (ints f.spans)

theorem FrOwn.cells {w : World} {lo : Nat} {f : Fr} {v : Value} (h : FrOwn w lo f v) : ∃ cs, v = .agg cs.toArray ∧ FrC w f cs := by
  obtain ⟨A, n, c, A2, n2, c2, rfl, h1, h2, h3, h4⟩ := h
  exact ⟨_, rfl, A, n, c, A2, n2, c2, rfl, h1, h2, own_base h3 (Nat.zero_le _), own_base h4 (Nat.zero_le _)⟩
theorem FrC.len {w : World} {f : Fr} {cs : List Value} (h : FrC w f cs) : cs.length = 9 := by
  obtain ⟨A, n, c, A2, n2, c2, rfl, _⟩ := h; rfl
theorem FrC.ones {w : World} {f : Fr} {cs : List Value} (h : FrC w f cs) : ones cs := fun u hu => by
  obtain ⟨A, n, c, A2, n2, c2, rfl, _⟩ := h
  simp only [frC, List.mem_cons, List.not_mem_nil, or_false] at hu
  rcases hu with rfl | rfl | rfl | rfl | rfl | rfl | rfl | rfl | rfl <;> rfl
theorem FrC.below {w w' : World} {f : Fr} {cs : List Value} (h : FrC w f cs) (hb : Below w.heap.size w w') : FrC w' f cs := by
  obtain ⟨A, n, c, A2, n2, c2, e, h1, h2, h3, h4⟩ := h
  exact ⟨A, n, c, A2, n2, c2, e, h1, h2, own_below h3 hb, own_below h4 hb⟩

/-- A row that is another type's is not this one's block. -/
theorem own_other {w : World} {base e e' size n g : Nat} {v : Value} {xs : List Value} (h : w.ownsRow base e size v n xs) {cur : Array Value} {fr : Nat × Nat} (hg : w.heap[g]? = some (.cells cur e' fr)) (hne : e ≠ e') : v.ownBlock ≠ some g := fun hv => by
  rcases h.2 with ⟨rfl, _⟩ | ⟨g', cap, cur', rfl, _, hh, _⟩
  · cases hv
  · simp only [Value.ownBlock, Option.some.injEq] at hv
    subst hv
    rw [hg] at hh
    simp only [Option.some.injEq, Obj.cells.injEq] at hh
    exact hne hh.2.1.symm

/-- The row of frames grows: those in it stay. -/
theorem FrC.grown {w w' : World} {f : Fr} {cs : List Value} (h : FrC w f cs) {row : Option Nat} (hg : w.grownBy w' row) (hr : ∀ g, row = some g → ∃ cur fr, w.heap[g]? = some (.cells cur 28 fr)) : FrC w' f cs := by
  obtain ⟨A, n, c, A2, n2, c2, e, h1, h2, h3, h4⟩ := h
  have key : ∀ {t size m : Nat} {v : Value} {xs : List Value}, w.ownsRow 0 t size v m xs → t ≠ 28 → w'.ownsRow 0 t size v m xs := fun ho hne => by
    refine ho.kept hg ?_
    cases row with
    | none => exact Classical.em _
    | some g =>
      obtain ⟨cur, fr, hh⟩ := hr g rfl
      have := own_other ho hh hne
      first | exact .inr (Ne.symm this) | exact .inr this | exact .inr (fun e => this e) | exact .inr (fun e => this e.symm)
  exact ⟨A, n, c, A2, n2, c2, e, h1, h2, key h3 (by decide), key h4 (by decide)⟩

def FrsC (w : World) : List Fr → List Value → Prop
  | [], cs => cs = []
  | f :: fs, cs => ∃ c1 c2, cs = c1 ++ c2 ∧ FrC w f c1 ∧ FrsC w fs c2
theorem FrsC.map {w w' : World} (hw : ∀ f cs, FrC w f cs → FrC w' f cs) : ∀ {fs : List Fr} {cs : List Value}, FrsC w fs cs → FrsC w' fs cs
  | [], _, h => h
  | _ :: _, _, ⟨c1, c2, e, h1, h2⟩ => ⟨c1, c2, e, hw _ _ h1, h2.map hw⟩
theorem FrsC.below {w w' : World} {fs : List Fr} {cs : List Value} (h : FrsC w fs cs) (hb : Below w.heap.size w w') : FrsC w' fs cs := h.map fun _ _ h => h.below hb
theorem FrsC.len {w : World} : ∀ {fs : List Fr} {cs : List Value}, FrsC w fs cs → cs.length = fs.length * 9
  | [], _, h => by cases h; rfl
  | f :: fs, _, ⟨c1, c2, e, h1, h2⟩ => by rw [e, List.length_append, h1.len, h2.len, List.length_cons]; omega
theorem FrsC.ones {w : World} : ∀ {fs : List Fr} {cs : List Value}, FrsC w fs cs → ones cs
  | [], _, h => by cases h; intro u hu; cases hu
  | f :: fs, _, ⟨c1, c2, e, h1, h2⟩ => fun u hu => by
    rw [e] at hu
    rcases List.mem_append.1 hu with h | h
    · exact h1.ones u h
    · exact h2.ones u h
theorem FrsC.app {w : World} : ∀ {fs gs : List Fr} {cs ds : List Value}, FrsC w fs cs → FrsC w gs ds → FrsC w (fs ++ gs) (cs ++ ds)
  | [], _, _, _, h, k => by cases h; exact k
  | f :: fs, _, _, _, ⟨c1, c2, e, h1, h2⟩, k => ⟨c1, c2 ++ _, by rw [e, List.append_assoc], h1, h2.app k⟩
theorem FrsC.one {w : World} {f : Fr} {cs : List Value} (h : FrC w f cs) : FrsC w [f] cs := ⟨cs, [], by simp, h, rfl⟩
/-- The k-th of them: its nine cells. -/
theorem FrsC.get {w : World} : ∀ {fs : List Fr} {cs : List Value} (k : Nat) (f : Fr), FrsC w fs cs → fs[k]? = some f → ∃ c, FrC w f c ∧ ∀ j, j < 9 → cs[k * 9 + j]? = c[j]?
  | [], _, k, f, h, hf => by simp at hf
  | g :: fs, _, 0, f, ⟨c1, c2, e, h1, h2⟩, hf => by
    simp only [List.getElem?_cons_zero, Option.some.injEq] at hf
    subst hf
    exact ⟨c1, h1, fun j hj => by rw [e, List.getElem?_append_left (by rw [h1.len]; omega), Nat.zero_mul, Nat.zero_add]⟩
  | g :: fs, _, k + 1, f, ⟨c1, c2, e, h1, h2⟩, hf => by
    obtain ⟨c, hc, hj⟩ := FrsC.get k f h2 (by simpa using hf)
    refine ⟨c, hc, fun j hj9 => ?_⟩
    rw [e, List.getElem?_append_right (by rw [h1.len]; omega), h1.len, ← hj j hj9]
    congr 1; omega
theorem FrsC.take {w : World} : ∀ {fs : List Fr} {cs : List Value} (k : Nat), FrsC w fs cs → FrsC w (fs.take k) (cs.take (k * 9))
  | [], _, k, h => by cases h; simp [FrsC]
  | g :: fs, _, 0, h => by simp [FrsC]
  | g :: fs, _, k + 1, ⟨c1, c2, e, h1, h2⟩ => by
    refine ⟨c1, c2.take (k * 9), ?_, h1, h2.take k⟩
    rw [e, List.take_append, h1.len, List.take_of_length_le (by rw [h1.len]; omega)]
    congr 2; omega
theorem FrsC.drop {w : World} : ∀ {fs : List Fr} {cs : List Value} (k : Nat), FrsC w fs cs → FrsC w (fs.drop k) (cs.drop (k * 9))
  | [], _, k, h => by cases h; simp [FrsC]
  | g :: fs, _, 0, h => by simpa using h
  | g :: fs, _, k + 1, ⟨c1, c2, e, h1, h2⟩ => by
    have e1 : c1.drop ((k + 1) * 9) = [] := List.drop_eq_nil_of_le (by rw [h1.len]; omega)
    have e2 : (c1 ++ c2).drop ((k + 1) * 9) = c2.drop (k * 9) := by
      rw [List.drop_append, e1, List.nil_append, h1.len]
      congr 1; omega
    rw [e, e2]
    exact h2.drop k

/-- A row of frames of the call's own. -/
def FrsOwn (w : World) (base : Nat) (v : Value) (fs : List Fr) : Prop := ∃ cs, w.ownsRow base 28 9 v fs.length cs ∧ FrsC w fs cs

theorem own_cells {w : World} {base e size n : Nat} {v : Value} {xs : List Value} (h : w.ownsRow base e size v n xs) : ∀ g, v.ownBlock = some g → ∃ cur fr, w.heap[g]? = some (.cells cur e fr) := fun g hg => by
  rcases h.2 with ⟨rfl, _⟩ | ⟨g', cap, cur', rfl, _, hh, _⟩
  · cases hg
  · simp only [Value.ownBlock, Option.some.injEq] at hg
    subst hg
    exact ⟨_, _, hh⟩

theorem FrsOwn.below {w w' : World} {base : Nat} {v : Value} {fs : List Fr} (h : FrsOwn w base v fs) (hb : Below w.heap.size w w') : FrsOwn w' base v fs := by
  obtain ⟨cs, h1, h2⟩ := h
  exact ⟨cs, own_below h1 hb, h2.below hb⟩
theorem FrsOwn.nil (w : World) (base : Nat) : FrsOwn w base (.slice none 0 0) [] := ⟨[], own_nil _ _ _ _, rfl⟩
end Go.Proofs.Ytebfjphmlggacaa

namespace Go.Proofs.Ytebfjphmlggacaa
open Go Go.RowKit

/-- A raw frame, as it lies in an argument. -/
structure Rw where
  k : Int
  id : Int
  off : Int
  a : Int
  b : Int
  bend : Int
  fin : Bool
  A1 : Option Addr
  bs : List Nat
  c1 : Nat
  A2 : Option Addr
  l : List Int
  c2 : Nat

structure RawOk (W : World) (r : Rw) : Prop where
  id : -9223372036854775808 ≤ r.id ∧ r.id ≤ 9223372036854775807
  off : -9223372036854775808 ≤ r.off ∧ r.off ≤ 9223372036854775807
  a : -9223372036854775808 ≤ r.a ∧ r.a ≤ 9223372036854775807
  b : -9223372036854775808 ≤ r.b ∧ r.b ≤ 9223372036854775807
  bs : Rd W W.heap.size r.A1 r.bs.length (bv r.bs)
  bc : r.bs.length ≤ r.c1
  bm : r.bs.length ≤ 140737488355328
  blt : ∀ x ∈ r.bs, x < 256
  l : Rd W W.heap.size r.A2 r.l.length (ints r.l)
  lc : r.l.length ≤ r.c2
  lm : r.l.length ≤ 17592186044416
  llt : ∀ n ∈ r.l, -9223372036854775808 ≤ n ∧ n ≤ 9223372036854775807

def rwC (r : Rw) : List Value := [.int .i64 r.k, .int .i64 r.id, .int .i64 r.off, .int .i64 r.a, .int .i64 r.b, .int .i64 r.bend, .bool r.fin, .slice r.A1 r.bs.length r.c1, .slice r.A2 r.l.length r.c2]

/-- A list of raw frames, as an argument. -/
structure IsRaws (W : World) (A : Option Addr) (cap n : Nat) (rs : List Rw) : Prop where
  len : rs.length = n
  cap : n ≤ cap
  big : n ≤ 140737488355328
  rd : 0 < n → ∃ b off, A = some ⟨b, off, none⟩ ∧ b < W.heap.size ∧ ∀ (k : Nat) (r : Rw), rs[k]? = some r → RawOk W r ∧ ∀ (j : Nat) (u : Value), (rwC r)[j]? = some u → W.cell? ⟨b, off + k * 9 + j, none⟩ = some u

theorem infoFr : (Try.prog.info? 28).map (fun i => (i.zero, i.size, i.bytes)) = some (some (.agg #[.int .i64 0, .int .i64 0, .int .i64 0, .int .i64 0, .int .i64 0, .int .i64 0, .bool false, .slice none 0 0, .slice none 0 0]), 9, 104) := by kernel_rfl

/-- Behind an append of one frame. -/
theorem FrsOwn.push {w w1 : World} {base : Nat} {v v1 : Value} {fs : List Fr} {f : Fr} {cells cs : List Value} {o : Obj} (ho : w.ownsRow base 28 9 v fs.length cells) (hf : FrsC w fs cells) (hc : FrC w f cs)
    (h1 : w1.ownsRow base 28 9 v1 (fs.length + 1) (cells ++ cs)) (hg : (w.alloc o).grownBy w1 v.ownBlock) : FrsOwn w1 base v1 (fs ++ [f]) := by
  have hb : Below w.heap.size w (w.alloc o) := (Below.refl _ _).alloc (Nat.le_refl _) _
  have hrow := own_cells (ho.alloc o)
  exact ⟨cells ++ cs, by rw [List.length_append]; exact h1, ((hf.below hb).map fun _ _ h => h.grown hg hrow).app (FrsC.one ((hc.below hb).grown hg hrow))⟩

def RightW (w wr : World) (fs : List Fr) (v : Value) : Prop := (∀ f ∈ fs, OkF f) ∧ FrsOwn wr w.heap.size v fs ∧ Below w.heap.size w wr
def RightP (K : Nat) (w : World) (e : Ending) (w' : World) : Prop := ∃ A n c fs, e = .returned (.slice A n c) ∧ fs.length = n ∧ n ≤ K ∧ RightW w w' fs (.slice A n c)

set_option maxRecDepth 100000 in
set_option maxHeartbeats 2000000 in
theorem hright_any (K : Nat) (hK : K ≤ 100) (rs : List Rw) (A : Option Addr) (n c : Nat) (w : World) (hr : IsRaws w A c n rs) :
    Calls Try.prog 15 #[.slice A n c, .int .i64 (K : Int)] w (RightP K w) := by
  have HR := Lib.hid hr
  have hb := hr.big
  have hci : (n : Int) ≤ (c : Int) := by have := hr.cap; omega
  obtain ⟨i0, hi, hz0, hz1, hz2⟩ := info_parts infoFr
  have HI := Lib.hid (And.intro hi (And.intro hz0 (And.intro hz1 hz2)))
  clear hr hi hz0 hz1 hz2
  go_enter Try.func15, Try.ntmps15
  go_wp2_with fail
  go_loopw [5, 6] (fun v i wr => ∃ (k : Nat), k ≤ K ∧ k ≤ n ∧ i = .int .i64 k ∧ (∃ A' c', v = .slice A' k c') ∧ Hid (∃ fs, fs.length = k ∧ RightW w wr fs v)) (fun _ i _ => n - (intOf i).toNat)
  case atStart => exact ⟨0, Nat.zero_le _, Nat.zero_le _, rfl, ⟨_, _, rfl⟩, [], rfl, fun f hf => (by cases hf), FrsOwn.nil _ _, Below.refl _ _⟩
  case round =>
    obtain ⟨k, hkK, hkn, rfl, ⟨A', c', rfl⟩, HK⟩ := hrel
    obtain ⟨fs, hfl, hfw⟩ := HK.out
    have HFL := Lib.hid hfl
    have HFW := Lib.hid hfw
    clear HK hfl hfw
    by_cases hlt : k < n
    · have hlti : (k : Int) < (n : Int) := by omega
      by_cases hltK : k < K
      · have hK2 : decide (k < K) = true := decide_eq_true hltK
        obtain ⟨b, off, hA, hbn, hcs⟩ := HR.out.rd (by omega)
        subst hA
        obtain ⟨r, hrk⟩ : ∃ r, rs[k]? = some r := ⟨_, List.getElem?_eq_getElem (by rw [HR.out.len]; omega)⟩
        obtain ⟨hok, hcell⟩ := hcs k r hrk
        obtain ⟨rk, rid, roff, ra, rb, rbend, rfin, rA1, rbs, rc1, rA2, rl, rc2⟩ := r
        have hb2 : b < w.heap.size := hbn
        have cc : ∀ j, wr.cell? ⟨b, off + k * 9 + j, none⟩ = w.cell? ⟨b, off + k * 9 + j, none⟩ := fun j => HFW.out.2.2.cell (p := ⟨b, off + k * 9 + j, none⟩) hb2
        have g0 : wr.cell? ⟨b, off + k * 9, none⟩ = some (.int .i64 rk) := (cc 0).trans (hcell 0 _ rfl)
        have g1 : wr.cell? ⟨b, off + k * 9 + 1, none⟩ = some (.int .i64 rid) := (cc 1).trans (hcell 1 _ rfl)
        have g2 : wr.cell? ⟨b, off + k * 9 + 2, none⟩ = some (.int .i64 roff) := (cc 2).trans (hcell 2 _ rfl)
        have g3 : wr.cell? ⟨b, off + k * 9 + 3, none⟩ = some (.int .i64 ra) := (cc 3).trans (hcell 3 _ rfl)
        have g4 : wr.cell? ⟨b, off + k * 9 + 4, none⟩ = some (.int .i64 rb) := (cc 4).trans (hcell 4 _ rfl)
        have g5 : wr.cell? ⟨b, off + k * 9 + 5, none⟩ = some (.int .i64 rbend) := (cc 5).trans (hcell 5 _ rfl)
        have g6 : wr.cell? ⟨b, off + k * 9 + 6, none⟩ = some (.bool rfin) := (cc 6).trans (hcell 6 _ rfl)
        have g7 : wr.cell? ⟨b, off + k * 9 + 7, none⟩ = some (.slice rA1 rbs.length rc1) := (cc 7).trans (hcell 7 _ rfl)
        have g8 : wr.cell? ⟨b, off + k * 9 + 8, none⟩ = some (.slice rA2 rl.length rc2) := (cc 8).trans (hcell 8 _ rfl)
        have HF : Hid (∀ W, Below w.heap.size w W → Calls Try.prog 33 #[.agg #[.int .i64 rk, .int .i64 rid, .int .i64 roff, .int .i64 ra, .int .i64 rb, .int .i64 0, .bool rfin, .slice rA1 rbs.length rc1, .slice rA2 rl.length rc2]] W (FrameP W)) := fun W hW =>
          frame_any rk rid roff ra rb rfin rA1 rbs rc1 rA2 rl rc2 W hok.id hok.off hok.a hok.b ((hok.bs.below hW (Nat.le_refl _)).more hW.size) hok.bc hok.bm hok.blt ((hok.l.below hW (Nat.le_refl _)).more hW.size) hok.lc hok.lm hok.llt
        clear hcs hok hcell cc hrk
        go_wp2_with fail
        refine (HF.out _ (HFW.out.2.2.alloc HFW.out.2.2.size _)).mono ?_
        rintro e w2 ⟨f, v, rfl, hokf, hfo, hb2'⟩
        obtain ⟨A1, n1, c1, A2, n2, c2, rfl, e1, e2, h3, h4⟩ := hfo
        have hfc : FrC w2 f (frC f (.slice A1 n1 c1) (.slice A2 n2 c2)) := ⟨A1, n1, c1, A2, n2, c2, rfl, e1, e2, own_base h3 (Nat.zero_le _), own_base h4 (Nat.zero_le _)⟩
        unfold frA
        have HC := Lib.hid hfc
        have HOK := Lib.hid hokf
        have HBR : Hid (Below wr.heap.size wr w2) := ((Below.refl _ _).alloc (Nat.le_refl _) _).trans (hb2'.mono (by simp))
        have HW2 : Hid (∃ cells, w2.ownsRow w.heap.size 28 9 (.slice A' k c') fs.length cells ∧ FrsC w2 fs cells) := HFW.out.2.1.below HBR.out
        obtain ⟨cells, hown2, hfrs2⟩ := HW2.out
        rw [HFL.out] at hown2
        have HO2 := Lib.hid hown2
        have HS2 := Lib.hid hfrs2
        have HBW : Hid (Below w.heap.size w w2) := HFW.out.2.2.trans (HBR.out.mono HFW.out.2.2.size)
        clear e1 e2 h3 h4 hfc hokf hb2' hown2 hfrs2 HW2
        have hb3 : Hid (w.heap.size ≤ (w2.alloc (.cells #[.int .i64 f.k, .int .i64 f.id, .int .i64 f.off, .int .i64 f.a, .int .i64 f.b, .int .i64 f.note, .bool f.fin, .slice A1 n1 c1, .slice A2 n2 c2] 28)).heap.size) := by have := HBW.out.size; show _ ≤ _; simp only [World.size_alloc]; omega
        go_wp2_with (at_builtin; refine wpList_app _ rfl (.tmp 24) (.tmp 27) 31 rfl w.heap.size 28 i0 (.agg #[.int .i64 0, .int .i64 0, .int .i64 0, .int .i64 0, .int .i64 0, .int .i64 0, .bool false, .slice none 0 0, .slice none 0 0]) 9 104 Try.underlying31 HI.out.1 HI.out.2.1 HI.out.2.2.1 HI.out.2.2.2 rfl (by decide) (.slice A' k c') k cells rfl (HO2.out.alloc _) (w2.heap.size + 1) (some ⟨w2.heap.size, 0, none⟩) 1 1 (frC f (.slice A1 n1 c1) (.slice A2 n2 c2)) rfl (rd_new _ _ _ _ _ _ _ rfl (by omega) rfl rfl) HC.out.ones (by unfold maxLen; omega) (by omega) hb3.out ?_)
        intro v1 w3 hown3 hgrow3
        obtain ⟨A3, c3, e3, _⟩ := own_form hown3
        subst e3
        have HN : Hid (∃ fs, fs.length = k + 1 ∧ RightW w w3 fs (.slice A3 (k + 1) c3)) := by
          refine ⟨fs ++ [f], by rw [List.length_append, HFL.out]; rfl, fun g hg => ?_, ?_, ?_⟩
          · rcases List.mem_append.1 hg with h | h
            · exact HFW.out.1 g h
            · simp only [List.mem_cons, List.not_mem_nil, or_false] at h
              subst h; exact HOK.out
          · exact FrsOwn.push (by rw [HFL.out]; exact HO2.out) HS2.out HC.out (by rw [HFL.out]; exact hown3) hgrow3
          · exact (HBW.out.alloc HBW.out.size _).grown hgrow3 hb3.out (fun g hg => (HO2.out.lt g hg).1)
        clear hown3 hgrow3
        go_wp2_with fail
        go_roundw
        case rel => exact ⟨k + 1, by omega, by omega, by go_num, ⟨_, _, rfl⟩, HN⟩
        case measure => simp [intOf]; omega
      · have hK2 : decide (k < K) = false := decide_eq_false hltK
        have HE : Hid (RightP K w (.returned (.slice A' k c')) wr) := ⟨A', k, c', fs, rfl, HFL.out, hkK, HFW.out⟩
        clear HFL HFW
        go_wp2_with fail
        go_ret
        exact HE.out
    · have hlti : ¬ (k : Int) < (n : Int) := by omega
      have HE : Hid (RightP K w (.returned (.slice A' k c')) wr) := ⟨A', k, c', fs, rfl, HFL.out, hkK, HFW.out⟩
      clear HFL HFW
      go_wp2_with fail
      go_ret
      exact HE.out
end Go.Proofs.Ytebfjphmlggacaa

namespace Go.Proofs.Ytebfjphmlggacaa
open Go Go.RowKit

/-- Frames in memory, whoever's. -/
def Frs (w : World) (A : Option Addr) (n c : Nat) (fs : List Fr) : Prop := fs.length = n ∧ n ≤ c ∧ ∃ cells, Rd w w.heap.size A (n * 9) cells ∧ FrsC w fs cells

theorem Frs.below {w w' : World} {A : Option Addr} {n c : Nat} {fs : List Fr} (h : Frs w A n c fs) (hb : Below w.heap.size w w') : Frs w' A n c fs := by
  obtain ⟨h1, h2, cells, h3, h4⟩ := h
  exact ⟨h1, h2, cells, (h3.below hb (Nat.le_refl _)).more hb.size, h4.below hb⟩
theorem FrsOwn.frs {w : World} {base : Nat} {A : Option Addr} {n c : Nat} {fs : List Fr} (h : FrsOwn w base (.slice A n c) fs) (hn : fs.length = n) : Frs w A n c fs := by
  obtain ⟨cells, h1, h2⟩ := h
  subst hn
  obtain ⟨A', c', e, hc, _, _, hr⟩ := own_form h1
  simp only [Value.slice.injEq] at e
  obtain ⟨rfl, _, rfl⟩ := e
  exact ⟨rfl, hc, cells, hr, h2⟩
/-- The k-th of them: its nine cells, read. -/
theorem Frs.get {w : World} {A : Option Addr} {n c : Nat} {fs : List Fr} (h : Frs w A n c fs) (k : Nat) (hk : k < n) :
    ∃ b off f A1 n1 c1 A2 n2 c2, A = some ⟨b, off, none⟩ ∧ b < w.heap.size ∧ fs[k]? = some f ∧ FrC w f (frC f (.slice A1 n1 c1) (.slice A2 n2 c2)) ∧ ∀ (j : Nat) (u : Value), (frC f (.slice A1 n1 c1) (.slice A2 n2 c2))[j]? = some u → w.cell? ⟨b, off + k * 9 + j, none⟩ = some u := by
  obtain ⟨h1, h2, cells, h3, h4⟩ := h
  obtain ⟨b, off, rfl, hb, hc⟩ := h3.2 (by omega)
  have hf : fs[k]? = some (fs[k]'(by omega)) := List.getElem?_eq_getElem (by omega)
  obtain ⟨cs, hcs, hj⟩ := h4.get k _ hf
  have hcs2 := hcs
  obtain ⟨A1, n1, c1, A2, n2, c2, rfl, _⟩ := hcs2
  refine ⟨b, off, _, A1, n1, c1, A2, n2, c2, rfl, hb, hf, hcs, fun j u hu => ?_⟩
  have hj9 : j < 9 := (List.getElem?_eq_some_iff.1 hu).1
  rw [Nat.add_assoc]
  exact hc _ u ((hj j hj9).trans hu)

def ElP (fs : List Fr) (w : World) (e : Ending) (w' : World) : Prop := ∃ r : Int, e = .returned (.int .i64 r) ∧ decide (0 ≤ r) = (fs.any fun f => elB f.k) ∧ Below w.heap.size w w'

theorem any_no {fs : List Fr} {n : Nat} (hn : fs.length = n) (h : ∀ j f, j < n → fs[j]? = some f → elB f.k = false) : (fs.any fun f => elB f.k) = false := by
  rw [List.any_eq_false]
  intro f hf
  obtain ⟨j, hj, rfl⟩ := List.mem_iff_getElem.1 hf
  rw [h j _ (by omega) (List.getElem?_eq_getElem hj)]
  decide
theorem any_yes {fs : List Fr} {k : Nat} {f : Fr} (hf : fs[k]? = some f) (h : elB f.k = true) : (fs.any fun f => elB f.k) = true :=
  List.any_eq_true.2 ⟨f, List.mem_of_getElem? hf, h⟩

end Go.Proofs.Ytebfjphmlggacaa

namespace Go.Proofs.Ytebfjphmlggacaa
open Go Go.RowKit Go.ChangeShapes Go.WideShapes Go.ChangeAt Go.WideMaps Go.WideElems

theorem mem_weightsAll {H : Type} {P : Program} {e : TypeId} {n : Nat} {x : DataW H} : ∀ {l : List (DataW H)}, x ∈ l → n ∈ x.weights P e → n ∈ DataW.weightsAll P e l
  | y :: l, h, hn => by
    simp only [DataW.weightsAll, List.mem_append]
    rcases List.mem_cons.1 h with rfl | h
    · exact .inl hn
    · exact .inr (mem_weightsAll h hn)

/-- A slice of numbers, within a datum. -/
theorem row_of_trod {H : Type} {enc : TypeId × Value → H} {P : Program} {W : World} {fuel : Nat} {v : Value} {x : DataW H × List MemPlace} {t e : TypeId} {k : IntKind} (bz : Nat) (ht : P.underlying t = some (.slice e)) (he : P.underlying e = some (.int k)) (hc : P.cellsOf e = 1) (hb : P.bytesOf e = bz)
    (h : DataW.trod enc P W 0 (fun _ => true) true fuel t [v] = some x) (hw : ∀ n ∈ x.1.weights P t, n ≤ reachBytes) :
    ∃ (zs : List Int) (A : Option Addr) (c : Nat), v = .slice A zs.length c ∧ Rd W W.heap.size A zs.length (zs.map (Value.int k)) ∧ zs.length ≤ c ∧ zs.length * bz ≤ reachBytes ∧ ∀ n ∈ zs, (Lit.int k n).wf = true := by
  rcases open_ints ht he hc h with ⟨hcs, hd⟩ | ⟨a, len0, cap0, zs, hcs, _, hl, hm, hz, hd, hcell, hwz⟩
  · simp only [List.cons.injEq, and_true] at hcs
    subst hcs
    exact ⟨[], none, 0, rfl, Rd.nil _ _ _, Nat.le_refl _, by simp, fun n hn => by cases hn⟩
  · simp only [List.cons.injEq, and_true] at hcs
    subst hcs
    simp only [if_true] at hz
    have hlen : (zs.take len0).length = len0 := by rw [List.length_take]; omega
    refine ⟨zs.take len0, some a, cap0, by rw [hlen], ⟨by simp, fun h0 => ?_⟩, by omega, ?_, fun n hn => hwz n (List.mem_of_mem_take hn)⟩
    · rw [hlen] at h0
      obtain ⟨b, off, spot⟩ := a
      have hc0 := hcell 0 (by omega)
      have hspot : spot = none := by simpa [Addr.add] using World.cell?_spot hc0
      subst hspot
      refine ⟨b, off, rfl, World.block_lt_of_cell? W _ hc0, fun j u hu => ?_⟩
      rw [List.getElem?_map, Option.map_eq_some_iff] at hu
      obtain ⟨z, hz', rfl⟩ := hu
      rw [List.getElem?_take] at hz'
      split at hz'
      · have hj := (List.getElem?_eq_some_iff.1 hz').1
        have := hcell j hj
        rw [Addr.add_lit] at this
        rw [this]
        simp [List.getD, hz']
      · cases hz'
    · rw [hd] at hw
      have := hw (zs.length * bz) (by
        simp only [DataW.weights, ht, hb]
        refine List.mem_cons.2 (.inl ?_)
        congr 1
        simp [lits]
        omega)
      rw [hlen]
      exact Nat.le_trans (Nat.mul_le_mul_right _ (by omega)) this

theorem nine {α : Type} (l : List α) (h : l.length = 9) : ∃ a0 a1 a2 a3 a4 a5 a6 a7 a8, l = [a0, a1, a2, a3, a4, a5, a6, a7, a8] := by
  match l, h with
  | [a0, a1, a2, a3, a4, a5, a6, a7, a8], _ => exact ⟨a0, a1, a2, a3, a4, a5, a6, a7, a8, rfl⟩

theorem raw_of_trod {H : Type} {enc : TypeId × Value → H} {W : World} {fuel : Nat} {cs : List Value} {x : DataW H × List MemPlace} (h : DataW.trod enc Try.prog W 0 (fun _ => true) true fuel 76 cs = some x) (hw : ∀ n ∈ x.1.weights Try.prog 76, n ≤ reachBytes) :
    ∃ r : Rw, cs = rwC r ∧ RawOk W r := by
  obtain ⟨ys, n', _, hx, hcl, hyl, hf⟩ := DataW.trod_struct Try.underlying76 h
  rw [show Try.prog.cellsOf 76 = 9 by kernel_rfl] at hcl
  obtain ⟨v0, v1, v2, v3, v4, v5, v6, v7, v8, rfl⟩ := nine cs hcl
  have hyl' : ys.length = 9 := hyl
  obtain ⟨y0, y1, y2, y3, y4, y5, y6, y7, y8, rfl⟩ := nine ys hyl'
  have f0 : DataW.trod enc Try.prog W 0 (fun _ => true) true n' 3 [v0] = some y0 := hf 0 _ rfl
  have f1 : DataW.trod enc Try.prog W 0 (fun _ => true) true n' 3 [v1] = some y1 := hf 1 _ rfl
  have f2 : DataW.trod enc Try.prog W 0 (fun _ => true) true n' 3 [v2] = some y2 := hf 2 _ rfl
  have f3 : DataW.trod enc Try.prog W 0 (fun _ => true) true n' 3 [v3] = some y3 := hf 3 _ rfl
  have f4 : DataW.trod enc Try.prog W 0 (fun _ => true) true n' 3 [v4] = some y4 := hf 4 _ rfl
  have f5 : DataW.trod enc Try.prog W 0 (fun _ => true) true n' 3 [v5] = some y5 := hf 5 _ rfl
  have f6 : DataW.trod enc Try.prog W 0 (fun _ => true) true n' 4 [v6] = some y6 := hf 6 _ rfl
  have f7 : DataW.trod enc Try.prog W 0 (fun _ => true) true n' 25 [v7] = some y7 := hf 7 _ rfl
  have f8 : DataW.trod enc Try.prog W 0 (fun _ => true) true n' 55 [v8] = some y8 := hf 8 _ rfl
  rw [hx] at hw
  have hwe : ∀ n ∈ DataW.weightsEach Try.prog [3, 3, 3, 3, 3, 3, 4, 25, 55] [y0.1, y1.1, y2.1, y3.1, y4.1, y5.1, y6.1, y7.1, y8.1], n ≤ reachBytes := fun n hn => hw n (by
    simp only [DataW.weights, Try.underlying76]
    exact hn)
  obtain ⟨z0, e0, _, w0⟩ := DataW.trod_int Try.underlying3 f0
  obtain ⟨z1, e1, _, w1⟩ := DataW.trod_int Try.underlying3 f1
  obtain ⟨z2, e2, _, w2⟩ := DataW.trod_int Try.underlying3 f2
  obtain ⟨z3, e3, _, w3⟩ := DataW.trod_int Try.underlying3 f3
  obtain ⟨z4, e4, _, w4⟩ := DataW.trod_int Try.underlying3 f4
  obtain ⟨z5, e5, _, w5⟩ := DataW.trod_int Try.underlying3 f5
  obtain ⟨z6, e6, _⟩ := DataW.trod_bool Try.underlying4 f6
  obtain ⟨bz, A7, c7, e7, r7, l7, b7, w7⟩ := row_of_trod 1 Try.underlying25 Try.underlying5 (by kernel_rfl) (by kernel_rfl) f7 (fun n hn => hwe n (DataW.weights_mem_each (j := 7) rfl rfl n hn))
  obtain ⟨iz, A8, c8, e8, r8, l8, b8, w8⟩ := row_of_trod 8 Try.underlying55 Try.underlying3 (by kernel_rfl) (by kernel_rfl) f8 (fun n hn => hwe n (DataW.weights_mem_each (j := 8) rfl rfl n hn))
  obtain ⟨bs, rfl, hb⟩ := bytes_of bz w7
  simp only [List.cons.injEq, and_true] at e0 e1 e2 e3 e4 e5 e6
  subst e0 e1 e2 e3 e4 e5 e6 e7 e8
  unfold reachBytes at b7 b8
  refine ⟨⟨z0, z1, z2, z3, z4, z5, z6, A7, bs, c7, A8, iz, c8⟩, by simp [rwC], ?_⟩
  simp only [List.length_map] at r7 l7 b7
  exact ⟨bounds_i64 w1, bounds_i64 w2, bounds_i64 w3, bounds_i64 w4, by simpa [bv, Function.comp_def] using r7, l7, by show bs.length ≤ _; omega, hb, r8, l8, by show iz.length ≤ _; omega, fun n hn => bounds_i64 (w8 n hn)⟩

theorem raws_of (n : Nat) (p : Nat → Rw → Prop) (h : ∀ j, j < n → ∃ z, p j z) : ∃ zs : List Rw, zs.length = n ∧ ∀ j r, zs[j]? = some r → p j r := by
  induction n with
  | zero => exact ⟨[], rfl, fun j r hj => by simp at hj⟩
  | succ n ih =>
    obtain ⟨zs, hl, hz⟩ := ih fun j hj => h j (by omega)
    obtain ⟨z, hzn⟩ := h n (by omega)
    refine ⟨zs ++ [z], by simp [hl], fun j r hj => ?_⟩
    rcases Nat.lt_or_ge j n with h1 | h1
    · rw [List.getElem?_append_left (by omega)] at hj
      exact hz j r hj
    · have hjl := (List.getElem?_eq_some_iff.1 hj).1
      simp only [List.length_append, List.length_cons, List.length_nil] at hjl
      obtain rfl : j = n := by omega
      rw [List.getElem?_append_right (by omega), hl, Nat.sub_self] at hj
      simp only [List.getElem?_cons_zero, Option.some.injEq] at hj
      subst hj; exact hzn

theorem open_raws {H : Type} {enc : TypeId × Value → H} {W : World} {base : Nat} {v : Value} {d : DataW H} {p : List MemPlace} {ts : List TypeId} {ds : List (DataW H)} (hval : Value.okWide Try.prog W .any base 46 v) (h : DataW.Trod enc Try.prog W 0 (fun _ => true) true 46 v d p)
    (hs : (DataW.weightsEach Try.prog ts ds).all (· ≤ reachBytes) = true) (j : Nat) (hj : ts[j]? = some 46) (hd : ds[j]? = some d) : ∃ A cap n rs, v = .slice A n cap ∧ IsRaws W A cap n rs := by
  obtain ⟨a0, len0, cap0, rfl⟩ := okWide_slice Try.underlying46 hval
  have hw : ∀ n ∈ d.weights Try.prog 46, n ≤ reachBytes := fun n hn => by
    have := DataW.weights_mem_each hj hd n hn
    simpa using List.all_eq_true.1 hs n this
  obtain ⟨fuel, hf⟩ := h
  rcases Deep.open_slice Try.underlying46 hf with ⟨hcs, _⟩ | ⟨a, len, cap, m, n, D, Pl, hcs, _, hl, hm, hmm, hx, hi⟩
  · simp [Value.cells] at hcs
    obtain ⟨rfl, rfl, rfl⟩ := hcs
    exact ⟨none, 0, 0, [], rfl, ⟨rfl, Nat.le_refl _, by omega, fun h => by omega⟩⟩
  · simp [Value.cells] at hcs
    obtain ⟨rfl, rfl, rfl⟩ := hcs
    simp only [if_true] at hmm
    subst hmm
    simp only [Prod.mk.injEq] at hx
    rw [hx.1] at hw
    simp only [DataW.weights, Try.underlying46] at hw
    rw [show Try.prog.cellsOf 76 = 9 by kernel_rfl] at hi
    have hp : ∀ j, j < len0 → ∃ r, RawOk W r ∧ ∃ cs', W.cells? 0 (a.add (j * 9)) 9 = some cs' ∧ cs' = rwC r := fun j hj => by
      obtain ⟨cs', hc, ht⟩ := hi j (by omega)
      obtain ⟨r, hr, hok⟩ := raw_of_trod ht (fun n hn => hw n (List.mem_cons.2 (.inr (List.mem_append.2 (.inl (mem_weightsAll (List.mem_map.2 ⟨j, by simpa using hj, rfl⟩) hn))))))
      exact ⟨r, hok, cs', hc, hr⟩
    obtain ⟨rs, hrl, hrs⟩ := raws_of len0 _ hp
    refine ⟨some a, m, len0, rs, rfl, ⟨hrl, hl, ?_, fun h0 => ?_⟩⟩
    · have := hw _ (List.mem_cons.2 (.inl rfl))
      rw [show Try.prog.bytesOf 76 = 104 by kernel_rfl] at this
      simp only [List.length_map, List.length_range] at this
      unfold reachBytes at this
      omega
    · obtain ⟨cs0, hc0, _⟩ := hi 0 (by omega)
      obtain ⟨_, _, hat0⟩ := World.cells?_some hc0
      have hl0 : cs0.length = 9 := by obtain ⟨_, h2, _⟩ := World.cells?_some hc0; exact h2
      have hz := hat0 0 (by omega)
      rw [List.getElem?_eq_getElem (by omega)] at hz
      obtain ⟨b, off, spot⟩ := a
      have hspot : spot = none := by simpa [Addr.add] using World.cell?_spot hz
      subst hspot
      refine ⟨b, off, rfl, ?_, fun k r hk => ?_⟩
      · have := World.block_lt_of_cell? W _ hz
        simpa [Addr.add] using this
      · obtain ⟨hok, cs', hc, rfl⟩ := hrs k r hk
        refine ⟨hok, fun j u hu => ?_⟩
        obtain ⟨_, _, hat⟩ := World.cells?_some hc
        have hjl := (List.getElem?_eq_some_iff.1 hu).1
        have := hat j (by simpa [rwC] using hjl)
        rw [hu] at this
        rw [← this, Deep.add_add, Addr.add_lit]
        congr 2; omega
end Go.Proofs.Ytebfjphmlggacaa
