/- SendKnown: the walk over the contracts (printed by gen/sendk.py). Conditions: none. -/
import Derived.Test.YtppbhjjkccogkaaJWs
import Derived.Test.YtppbhjjkccogkaaJSnKn
import Derived.Test.YtppbhjjkccogkaaJWn
import Derived.Test.YtppbhjjkccogkaaJLs
set_option linter.unusedSimpArgs false
set_option linter.unusedVariables false

namespace Go.Proofs.Ytppbhjjkccogkaa.SnK
open Go Go.RowKit Go.Proofs.Ytppbhjjkccogkaa Go.Proofs.Ytppbhjjkccogkaa.Sp Go.Proofs.Ytppbhjjkccogkaa.Sp.Ref Go.Proofs.Ytppbhjjkccogkaa.Se

def One (w wr : World) (p : Nat) (s : St) (gs : List (Nat × Array Value)) : Prop := ∃ F x y c, StIn wr p F x y c s ∧ ((∀ k ∈ F, w.heap.size ≤ k) ∧ Below w.heap.size w wr ∧ ∀ z ∈ gs, z.1 ∉ F ∧ wr.heap[z.1]? = some (.cells z.2 30 (0, 0)))
def Two (w wr : World) (p : Nat) (s : St) (q : Nat) (z : St) (gs : List (Nat × Array Value)) : Prop := ∃ F x y c G x2 y2 c2, StIn wr p F x y c s ∧ StIn wr q G x2 y2 c2 z ∧ ((∀ k ∈ F, k ∉ G) ∧ (∀ k ∈ F, w.heap.size ≤ k) ∧ (∀ k ∈ G, w.heap.size ≤ k) ∧ Below w.heap.size w wr ∧ ∀ z ∈ gs, (z.1 ∉ F ∧ z.1 ∉ G) ∧ wr.heap[z.1]? = some (.cells z.2 30 (0, 0)))
section
variable {w wr w' : World} {p q : Nat} {s s' z z' : St} {gs : List (Nat × Array Value)} {F G : List Nat} {x y c x2 y2 c2 : Value}
theorem One.to (hs : StIn wr p F x y c s) (hr : (∀ k ∈ F, w.heap.size ≤ k) ∧ Below w.heap.size w wr ∧ ∀ z ∈ gs, z.1 ∉ F ∧ wr.heap[z.1]? = some (.cells z.2 30 (0, 0))) (ht : StTo wr w' p F s') : One w w' p s' gs := by
  obtain ⟨F', a, b, d, h1, h2, h3⟩ := ht
  refine ⟨F', a, b, d, h1, fun k hk => (h3 k hk).elim (hr.1 k) (fun h => Nat.le_trans hr.2.1.size h), hr.2.1.trans (h2.below hr.2.1.size hr.1), fun v hv => ?_⟩
  obtain ⟨h4, h5⟩ := hr.2.2 v hv
  have hlt := lt_of_block h5
  exact ⟨fun hm => (h3 _ hm).elim h4 (fun h => by omega), (h2.block v.1 hlt h4).trans h5⟩
theorem One.below (h : One w wr p s gs) (hb : Below wr.heap.size wr w') : One w w' p s gs := by
  obtain ⟨F, x, y, c, hs, hr⟩ := h
  exact One.to hs hr (hs.here hb)
theorem One.frame (h : One w wr p s gs) (cs : Array Value) : One w (wr.alloc (.cells cs 30)) p s ((wr.heap.size, cs) :: gs) := by
  have h2 := h.below ((Below.refl wr.heap.size wr).alloc (Nat.le_refl _) (.cells cs 30))
  obtain ⟨F, x, y, c, hs, hr⟩ := h
  have hb := (Below.refl wr.heap.size wr).alloc (Nat.le_refl _) (.cells cs 30)
  refine ⟨F, x, y, c, hs.below hb, hr.1, hr.2.1.trans (hb.mono hr.2.1.size), fun v hv => ?_⟩
  rcases List.mem_cons.1 hv with rfl | hv
  · exact ⟨fun hm => by have := hs.hF _ hm; exact absurd this (by simp), heap_alloc_new wr _⟩
  · obtain ⟨h4, h5⟩ := hr.2.2 v hv
    exact ⟨h4, (hb.block v.1 (lt_of_block h5)).trans h5⟩
theorem One.get (h : One w wr p s gs) (g : Nat) (cs : Array Value) (hm : (g, cs) ∈ gs) : wr.heap[g]? = some (.cells cs 30 (0, 0)) := by
  obtain ⟨F, x, y, c, hs, hr⟩ := h
  exact (hr.2.2 _ hm).2
theorem One.bel (h : One w wr p s gs) : Below w.heap.size w wr := by
  obtain ⟨F, x, y, c, hs, hr⟩ := h
  exact hr.2.1
theorem One.new (hB : Below w.heap.size w wr) (h : StIn w' p F x y c s) (hF : ∀ k ∈ F, wr.heap.size ≤ k) (hb : Below wr.heap.size wr w') : One w w' p s [] :=
  ⟨F, x, y, c, h, fun k hk => Nat.le_trans hB.size (hF k hk), hB.trans (hb.mono hB.size), fun _ hm => by cases hm⟩
theorem One.two (h : One w wr p s gs) (hz : StIn w' q G x2 y2 c2 z) (hG : ∀ k ∈ G, wr.heap.size ≤ k) (hb : Below wr.heap.size wr w') : Two w w' p s q z gs := by
  obtain ⟨F, x, y, c, hs, hr⟩ := h
  refine ⟨F, x, y, c, G, x2, y2, c2, hs.below hb, hz, fun k hk hm => ?_, hr.1, fun k hk => Nat.le_trans hr.2.1.size (hG k hk), hr.2.1.trans (hb.mono hr.2.1.size), fun v hv => ?_⟩
  · have := hs.hF k hk; have := hG k hm; omega
  · obtain ⟨h4, h5⟩ := hr.2.2 v hv
    have hlt := lt_of_block h5
    exact ⟨⟨h4, fun hm => by have := hG _ hm; omega⟩, (hb.block v.1 hlt).trans h5⟩
theorem Two.swap (h : Two w wr p s q z gs) : Two w wr q z p s gs := by
  obtain ⟨F, x, y, c, G, x2, y2, c2, h1, h2, h3, h4, h5, h6, h7⟩ := h
  exact ⟨G, x2, y2, c2, F, x, y, c, h2, h1, fun k hk hm => h3 k hm hk, h5, h4, h6, fun v hv => ⟨⟨(h7 v hv).1.2, (h7 v hv).1.1⟩, (h7 v hv).2⟩⟩
theorem Two.toS (hs : StIn wr p F x y c s) (hz : StIn wr q G x2 y2 c2 z) (hr : (∀ k ∈ F, k ∉ G) ∧ (∀ k ∈ F, w.heap.size ≤ k) ∧ (∀ k ∈ G, w.heap.size ≤ k) ∧ Below w.heap.size w wr ∧ ∀ z ∈ gs, (z.1 ∉ F ∧ z.1 ∉ G) ∧ wr.heap[z.1]? = some (.cells z.2 30 (0, 0))) (ht : StTo wr w' p F s') : Two w w' p s' q z gs := by
  obtain ⟨F', a, b, d, h1, h2, h3⟩ := ht
  refine ⟨F', a, b, d, G, x2, y2, c2, h1, hz.kept h2 fun k hk hm => hr.1 k hm hk, fun k hk hm => ?_, fun k hk => (h3 k hk).elim (hr.2.1 k) (fun h => Nat.le_trans hr.2.2.2.1.size h), hr.2.2.1, hr.2.2.2.1.trans (h2.below hr.2.2.2.1.size hr.2.1), fun v hv => ?_⟩
  · rcases h3 k hk with h | h
    · exact hr.1 k h hm
    · have := hz.hF k hm; omega
  · obtain ⟨h4, h5⟩ := hr.2.2.2.2 v hv
    have hlt := lt_of_block h5
    exact ⟨⟨fun hm => (h3 _ hm).elim h4.1 (fun h => by omega), h4.2⟩, (h2.block v.1 hlt h4.1).trans h5⟩
theorem Two.toZ (hs : StIn wr p F x y c s) (hz : StIn wr q G x2 y2 c2 z) (hr : (∀ k ∈ F, k ∉ G) ∧ (∀ k ∈ F, w.heap.size ≤ k) ∧ (∀ k ∈ G, w.heap.size ≤ k) ∧ Below w.heap.size w wr ∧ ∀ z ∈ gs, (z.1 ∉ F ∧ z.1 ∉ G) ∧ wr.heap[z.1]? = some (.cells z.2 30 (0, 0))) (ht : StTo wr w' q G z') : Two w w' p s q z' gs :=
  (Two.toS hz hs ⟨fun k hk hm => hr.1 k hm hk, hr.2.2.1, hr.2.1, hr.2.2.2.1, fun v hv => ⟨⟨(hr.2.2.2.2 v hv).1.2, (hr.2.2.2.2 v hv).1.1⟩, (hr.2.2.2.2 v hv).2⟩⟩ ht).swap
theorem Two.below (h : Two w wr p s q z gs) (hb : Below wr.heap.size wr w') : Two w w' p s q z gs := by
  obtain ⟨F, x, y, c, G, x2, y2, c2, hs, hz, hr⟩ := h
  exact Two.toS hs hz hr (hs.here hb)
theorem Two.frame (h : Two w wr p s q z gs) (cs : Array Value) : Two w (wr.alloc (.cells cs 30)) p s q z ((wr.heap.size, cs) :: gs) := by
  obtain ⟨F, x, y, c, G, x2, y2, c2, hs, hz, hr⟩ := h
  have hb := (Below.refl wr.heap.size wr).alloc (Nat.le_refl _) (.cells cs 30)
  refine ⟨F, x, y, c, G, x2, y2, c2, hs.below hb, hz.below hb, hr.1, hr.2.1, hr.2.2.1, hr.2.2.2.1.trans (hb.mono hr.2.2.2.1.size), fun v hv => ?_⟩
  rcases List.mem_cons.1 hv with rfl | hv
  · exact ⟨⟨fun hm => by have := hs.hF _ hm; exact absurd this (by simp), fun hm => by have := hz.hF _ hm; exact absurd this (by simp)⟩, heap_alloc_new wr _⟩
  · obtain ⟨h4, h5⟩ := hr.2.2.2.2 v hv
    exact ⟨h4, (hb.block v.1 (lt_of_block h5)).trans h5⟩
theorem Two.get (h : Two w wr p s q z gs) (g : Nat) (cs : Array Value) (hm : (g, cs) ∈ gs) : wr.heap[g]? = some (.cells cs 30 (0, 0)) := by
  obtain ⟨F, x, y, c, G, x2, y2, c2, hs, hz, hr⟩ := h
  exact (hr.2.2.2.2 _ hm).2
theorem Two.bel (h : Two w wr p s q z gs) : Below w.heap.size w wr := by
  obtain ⟨F, x, y, c, G, x2, y2, c2, hs, hz, hr⟩ := h
  exact hr.2.2.2.1
end
def usedAt (w : World) (p : Nat) : Nat := match w.cell? ⟨p, 1, none⟩ with | some (.int _ n) => (400 - n).toNat | _ => 0
theorem used_of {w : World} {p : Nat} {F : List Nat} {x y c : Value} {s : St} (h : StIn w p F x y c s) : usedAt w p = (400 - s.u).toNat := by
  unfold usedAt; rw [h.cells.2.1]
theorem next_yes {s s' : St} {room most : Int} {w w' : World} {p : Nat} {F : List Nat} {e : Ending} {a n : Nat} {fin : Bool} {fresh : Int} (h : NextP s room most w p F e w') (hk : nextS s room most = some (⟨(a : Int), (n : Int), fin, fresh⟩, s')) :
    ∃ (A : Option Addr) (c : Nat), e = .returned (.tuple #[.agg #[.int .i64 3, .int .i64 s.id, .int .i64 (a : Int), .int .i64 0, .int .i64 0, .int .i64 0, .bool fin, .slice A n c, .slice none 0 0], .int .i64 fresh, .bool true]) ∧ StTo w w' p F s' := by
  rcases h with ⟨h1, _⟩ | ⟨a', n', fin', fresh', A, c, F', a3, a4, a5, h1, rfl, h2, h3, h4, h5, h6⟩
  · rw [h1] at hk; cases hk
  · have h7 := next_of h1
    rw [hk] at h7
    simp only [Option.some.injEq, Prod.mk.injEq] at h7
    obtain ⟨h8, hs⟩ := h7
    have ha : (a : Int) = (a' : Int) := congrArg Fd.off h8
    have hn : (n : Int) = (n' : Int) := congrArg Fd.n h8
    have hf : fin = fin' := congrArg Fd.fin h8
    have hr : fresh = fresh' := congrArg Fd.fresh h8
    obtain rfl : a = a' := by omega
    obtain rfl : n = n' := by omega
    subst hf hr hs
    exact ⟨A, c, rfl, F', a3, a4, a5, h2, h3, h4⟩
theorem next_no {s : St} {room most : Int} {w w' : World} {p : Nat} {F : List Nat} {e : Ending} (h : NextP s room most w p F e w') (hk : nextS s room most = none) :
    e = .returned (.tuple #[.agg #[.int .i64 0, .int .i64 0, .int .i64 0, .int .i64 0, .int .i64 0, .int .i64 0, .bool false, .slice none 0 0, .slice none 0 0], .int .i64 0, .bool false]) ∧ StTo w w' p F s := by
  rcases h with ⟨_, h1, h2⟩ | ⟨a', n', fin', fresh', A, c, F', a3, a4, a5, h1, _⟩
  · exact ⟨h1, h2⟩
  · rw [next_of h1] at hk; cases hk
theorem made_zero (n : Nat) : (madeCells #[Value.int .u8 0] n).toList = bv (List.replicate n 0) := by
  refine List.ext_getElem (by simp [madeCells, bv]) fun k h1 h2 => ?_
  simp [madeCells, bv, Nat.mod_one]

set_option maxRecDepth 100000 in
set_option maxHeartbeats 16000000 in
theorem known_walk (w : World) :
    Calls Try.prog 3 #[] w fun e w' => e = .returned (.bool true) ∧ Below w.heap.size w w' := by
  have HNEW := Lib.hid (fun W => new_st W 4)
  have HNEWZ := Lib.hid (fun W => new_st W 1)
  have HNEW0 := Lib.hid (fun W => new_st W 0)
  have HKN := Lib.hid SnKn.known_any
  obtain ⟨i0, hi, hz0, hz1, hz2⟩ := info_parts infoB
  have hmk500 := fun W => run_make (P := Try.prog) W 27 5 i0 (.int .u8 0) Try.underlying27 hi hz0 .i64 .i64 500 500 (by omega) (by omega) (by rw [hz2]; omega) (by omega)
  simp only [hz1, Nat.mul_one, show (500 : Int).toNat = 500 from rfl] at hmk500
  have hmz500 : Hid ((madeCells (Value.int .u8 0).cells 500).toList = bv Z) := made_zero 500
  obtain ⟨zc500, hzc⟩ : ∃ x, madeCells (Value.int .u8 0).cells 500 = x := ⟨_, rfl⟩
  rw [hzc] at hmk500 hmz500
  have hzs500 : Hid (zc500.size = 500) := by show _ = _; rw [← hzc]; exact size_madeCells _ _
  clear hzc
  have hmk4001 := fun W => run_make (P := Try.prog) W 27 5 i0 (.int .u8 0) Try.underlying27 hi hz0 .i64 .i64 4001 4001 (by omega) (by omega) (by rw [hz2]; omega) (by omega)
  simp only [hz1, Nat.mul_one, show (4001 : Int).toNat = 4001 from rfl] at hmk4001
  have hmz4001 : Hid ((madeCells (Value.int .u8 0).cells 4001).toList = bv (List.replicate 4001 0)) := made_zero 4001
  obtain ⟨zc4001, hzc⟩ : ∃ x, madeCells (Value.int .u8 0).cells 4001 = x := ⟨_, rfl⟩
  rw [hzc] at hmk4001 hmz4001
  have hzs4001 : Hid (zc4001.size = 4001) := by show _ = _; rw [← hzc]; exact size_madeCells _ _
  clear hzc
  clear hi hz0 hz1 hz2
  go_enter Try.func3, Try.ntmps3
  go_wp2_with fail
  refine (HNEW.out w).mono ?_
  rintro e w1 ⟨p, F1, x1, y1, c1, rfl, hs1, hF1, hb1⟩
  have H : Hid (One w w1 p q0 []) := ⟨F1, x1, y1, c1, hs1, hF1, hb1, fun _ hx => by cases hx⟩
  clear hs1 hF1 hb1
  go_wp2_with fail
  refine (HKN.out w1).mono ?_
  rintro e w2 ⟨rfl, hb2⟩
  have H1 := Lib.hid (H.out.below hb2)
  clear hb2 H
  have H := H1
  clear H1
  go_wp2_with fail
  have H1 : Hid (One w (w2.alloc (.cells zc500 5)) p q0 []) := Lib.hid (H.out.below ((Below.refl _ _).alloc (Nat.le_refl _) (.cells zc500 5)))
  have HR := Lib.hid (rd_new w2 zc500 5 w2.heap.size (w2.alloc (.cells zc500 5)).heap.size 500 _ rfl (by simp) hzs500.out hmz500.out)
  obtain ⟨w3, hw⟩ : ∃ x, w2.alloc (.cells zc500 5) = x := ⟨_, rfl⟩
  obtain ⟨gm2, hgm⟩ : ∃ g, w2.heap.size = g := ⟨_, rfl⟩
  rw [hw] at H1 HR ⊢
  rw [hgm] at HR ⊢
  clear hw hgm H
  have H := H1
  clear H1
  obtain ⟨F, x, y, c, hs, hr⟩ := H.out
  have HC := Lib.hid (write_st hs (by decide) Z _ (some ⟨gm2, 0, none⟩) 500 HR.out (by decide))
  have HT := Lib.hid (fun w' (ht : StTo w3 w' p F q1) => One.to hs hr ht)
  clear hs hr H HR
  refine HC.out.mono ?_
  rintro e w4 hq
  obtain ⟨rfl, hst⟩ : e = .returned (.int .i64 0) ∧ StTo w3 w4 p F q1 := by rw [e1] at hq; exact hq
  have H := Lib.hid (HT.out _ hst)
  clear hq hst HC HT
  go_upto_region 5 with (fail)
  obtain ⟨F, x, y, c, hs, hr⟩ := H.out
  have HC := Lib.hid (next_st hs ok1 999 130 (by decide))
  have HT := Lib.hid (fun w' (ht : StTo w4 w' p F q2) => One.to hs hr ht)
  clear hs hr H
  go_wp2_with fail
  refine HC.out.mono ?_
  rintro e w5 hq
  obtain ⟨A4, c4, rfl, hst⟩ : ∃ (A4 : Option Addr) (c4 : Nat), e = .returned (.tuple #[.agg #[.int .i64 3, .int .i64 4, .int .i64 0, .int .i64 0, .int .i64 0, .int .i64 0, .bool false, .slice A4 120 c4, .slice none 0 0], .int .i64 120, .bool true]) ∧ StTo w4 w5 p F q2 := next_yes (a := 0) (n := 120) hq e2
  have H := Lib.hid (HT.out _ hst)
  clear hq hst HC HT
  go_upto_region 6 with (fail)
  have H1 : Hid (One w (w5.alloc (.cells #[.int .i64 3, .int .i64 4, .int .i64 0, .int .i64 0, .int .i64 0, .int .i64 0, .bool false, .slice A4 120 c4, .slice none 0 0] 30)) p q2 [(w5.heap.size, #[.int .i64 3, .int .i64 4, .int .i64 0, .int .i64 0, .int .i64 0, .int .i64 0, .bool false, .slice A4 120 c4, .slice none 0 0])]) := Lib.hid (H.out.frame #[.int .i64 3, .int .i64 4, .int .i64 0, .int .i64 0, .int .i64 0, .int .i64 0, .bool false, .slice A4 120 c4, .slice none 0 0])
  obtain ⟨ga, hga⟩ : ∃ g, w5.heap.size = g := ⟨_, rfl⟩
  obtain ⟨w6, hw6⟩ : ∃ x, w5.alloc (.cells #[.int .i64 3, .int .i64 4, .int .i64 0, .int .i64 0, .int .i64 0, .int .i64 0, .bool false, .slice A4 120 c4, .slice none 0 0] 30) = x := ⟨_, rfl⟩
  rw [hw6, hga] at H1 ⊢
  clear H hw6 hga
  have H := H1
  clear H1
  obtain ⟨F, x, y, c, hs, hr⟩ := H.out
  have HC := Lib.hid (next_st hs ok2 999 30 (by decide))
  have HT := Lib.hid (fun w' (ht : StTo w6 w' p F q3) => One.to hs hr ht)
  clear hs hr H
  go_wp2_with fail
  refine HC.out.mono ?_
  rintro e w7 hq
  obtain ⟨A6, c6, rfl, hst⟩ : ∃ (A6 : Option Addr) (c6 : Nat), e = .returned (.tuple #[.agg #[.int .i64 3, .int .i64 4, .int .i64 120, .int .i64 0, .int .i64 0, .int .i64 0, .bool false, .slice A6 30 c6, .slice none 0 0], .int .i64 30, .bool true]) ∧ StTo w6 w7 p F q3 := next_yes (a := 120) (n := 30) hq e3
  have H := Lib.hid (HT.out _ hst)
  clear hq hst HC HT
  go_upto_region 7 with (fail)
  have H1 : Hid (One w (w7.alloc (.cells #[.int .i64 3, .int .i64 4, .int .i64 120, .int .i64 0, .int .i64 0, .int .i64 0, .bool false, .slice A6 30 c6, .slice none 0 0] 30)) p q3 [(w7.heap.size, #[.int .i64 3, .int .i64 4, .int .i64 120, .int .i64 0, .int .i64 0, .int .i64 0, .bool false, .slice A6 30 c6, .slice none 0 0]), (ga, #[.int .i64 3, .int .i64 4, .int .i64 0, .int .i64 0, .int .i64 0, .int .i64 0, .bool false, .slice A4 120 c4, .slice none 0 0])]) := Lib.hid (H.out.frame #[.int .i64 3, .int .i64 4, .int .i64 120, .int .i64 0, .int .i64 0, .int .i64 0, .bool false, .slice A6 30 c6, .slice none 0 0])
  obtain ⟨gb, hgb⟩ : ∃ g, w7.heap.size = g := ⟨_, rfl⟩
  obtain ⟨w8, hw8⟩ : ∃ x, w7.alloc (.cells #[.int .i64 3, .int .i64 4, .int .i64 120, .int .i64 0, .int .i64 0, .int .i64 0, .bool false, .slice A6 30 c6, .slice none 0 0] 30) = x := ⟨_, rfl⟩
  rw [hw8, hgb] at H1 ⊢
  clear H hw8 hgb
  have H := H1
  clear H1
  obtain ⟨F, x, y, c, hs, hr⟩ := H.out
  have HC := Lib.hid (next_st hs ok3 999 0 (by decide))
  have HT := Lib.hid (fun w' (ht : StTo w8 w' p F q3) => One.to hs hr ht)
  clear hs hr H
  go_wp2_with fail
  refine HC.out.mono ?_
  rintro e w9 hq
  obtain ⟨rfl, hst⟩ : e = .returned (.tuple #[.agg #[.int .i64 0, .int .i64 0, .int .i64 0, .int .i64 0, .int .i64 0, .int .i64 0, .bool false, .slice none 0 0, .slice none 0 0], .int .i64 0, .bool false]) ∧ StTo w8 w9 p F q3 := next_no hq e4
  have H := Lib.hid (HT.out _ hst)
  clear hq hst HC HT
  go_upto_region 8 with (fail)
  have H1 : Hid (One w (w9.alloc (.cells #[.int .i64 0, .int .i64 0, .int .i64 0, .int .i64 0, .int .i64 0, .int .i64 0, .bool false, .slice none 0 0, .slice none 0 0] 30)) p q3 [(gb, #[.int .i64 3, .int .i64 4, .int .i64 120, .int .i64 0, .int .i64 0, .int .i64 0, .bool false, .slice A6 30 c6, .slice none 0 0]), (ga, #[.int .i64 3, .int .i64 4, .int .i64 0, .int .i64 0, .int .i64 0, .int .i64 0, .bool false, .slice A4 120 c4, .slice none 0 0])]) := Lib.hid (H.out.below ((Below.refl _ _).alloc (Nat.le_refl _) _))
  obtain ⟨w10, hw10⟩ : ∃ x, w9.alloc (.cells #[.int .i64 0, .int .i64 0, .int .i64 0, .int .i64 0, .int .i64 0, .int .i64 0, .bool false, .slice none 0 0, .slice none 0 0] 30) = x := ⟨_, rfl⟩
  rw [hw10] at H1 ⊢
  clear H hw10
  have H := H1
  clear H1
  obtain ⟨F, x, y, c, hs, hr⟩ := H.out
  have HC := Lib.hid (next_st hs ok3 24 999 (by decide))
  have HT := Lib.hid (fun w' (ht : StTo w10 w' p F q4) => One.to hs hr ht)
  clear hs hr H
  go_wp2_with fail
  refine HC.out.mono ?_
  rintro e w11 hq
  obtain ⟨A10, c10, rfl, hst⟩ : ∃ (A10 : Option Addr) (c10 : Nat), e = .returned (.tuple #[.agg #[.int .i64 3, .int .i64 4, .int .i64 150, .int .i64 0, .int .i64 0, .int .i64 0, .bool false, .slice A10 18 c10, .slice none 0 0], .int .i64 18, .bool true]) ∧ StTo w10 w11 p F q4 := next_yes (a := 150) (n := 18) hq e5
  have H := Lib.hid (HT.out _ hst)
  clear hq hst HC HT
  go_upto_region 9 with (fail)
  have H1 : Hid (One w (w11.alloc (.cells #[.int .i64 3, .int .i64 4, .int .i64 150, .int .i64 0, .int .i64 0, .int .i64 0, .bool false, .slice A10 18 c10, .slice none 0 0] 30)) p q4 [(w11.heap.size, #[.int .i64 3, .int .i64 4, .int .i64 150, .int .i64 0, .int .i64 0, .int .i64 0, .bool false, .slice A10 18 c10, .slice none 0 0]), (gb, #[.int .i64 3, .int .i64 4, .int .i64 120, .int .i64 0, .int .i64 0, .int .i64 0, .bool false, .slice A6 30 c6, .slice none 0 0]), (ga, #[.int .i64 3, .int .i64 4, .int .i64 0, .int .i64 0, .int .i64 0, .int .i64 0, .bool false, .slice A4 120 c4, .slice none 0 0])]) := Lib.hid (H.out.frame #[.int .i64 3, .int .i64 4, .int .i64 150, .int .i64 0, .int .i64 0, .int .i64 0, .bool false, .slice A10 18 c10, .slice none 0 0])
  obtain ⟨gc, hgc⟩ : ∃ g, w11.heap.size = g := ⟨_, rfl⟩
  obtain ⟨w12, hw12⟩ : ∃ x, w11.alloc (.cells #[.int .i64 3, .int .i64 4, .int .i64 150, .int .i64 0, .int .i64 0, .int .i64 0, .bool false, .slice A10 18 c10, .slice none 0 0] 30) = x := ⟨_, rfl⟩
  rw [hw12, hgc] at H1 ⊢
  clear H hw12 hgc
  have H := H1
  clear H1
  have hg := H.out.get ga _ (.tail _ (.tail _ (.head _)))
  have dga0 := cell_slot (o := 0) hg rfl
  have dga1 := cell_slot (o := 1) hg rfl
  have dga2 := cell_slot (o := 2) hg rfl
  have dga3 := cell_slot (o := 3) hg rfl
  have dga4 := cell_slot (o := 4) hg rfl
  have dga5 := cell_slot (o := 5) hg rfl
  have dga6 := cell_slot (o := 6) hg rfl
  have dga7 := cell_slot (o := 7) hg rfl
  have dga8 := cell_slot (o := 8) hg rfl
  clear hg
  obtain ⟨F, x, y, c, hs, hr⟩ := H.out
  have HC := Lib.hid (lost_st hs ok4 3 4 0 0 0 0 false A4 120 c4 none 0 0 (by decide) (by decide))
  have HT := Lib.hid (fun w' (ht : StTo w12 w' p F q5) => One.to hs hr ht)
  clear hs hr H
  go_wp2_with fail
  refine HC.out.mono ?_
  rintro e w13 hq
  obtain ⟨rfl, hst⟩ : e = .returned (.tuple #[]) ∧ StTo w12 w13 p F q5 := by rw [e6] at hq; exact hq
  have H := Lib.hid (HT.out _ hst)
  clear hq hst HC HT
  clear dga0 dga1 dga2 dga3 dga4 dga5 dga6 dga7 dga8
  go_upto_region 10 with (fail)
  obtain ⟨F, x, y, c, hs, hr⟩ := H.out
  have HC := Lib.hid (next_st hs ok5 60 0 (by decide))
  have HT := Lib.hid (fun w' (ht : StTo w13 w' p F q6) => One.to hs hr ht)
  clear hs hr H
  go_wp2_with fail
  refine HC.out.mono ?_
  rintro e w14 hq
  obtain ⟨A13, c13, rfl, hst⟩ : ∃ (A13 : Option Addr) (c13 : Nat), e = .returned (.tuple #[.agg #[.int .i64 3, .int .i64 4, .int .i64 0, .int .i64 0, .int .i64 0, .int .i64 0, .bool false, .slice A13 55 c13, .slice none 0 0], .int .i64 0, .bool true]) ∧ StTo w13 w14 p F q6 := next_yes (a := 0) (n := 55) hq e7
  have H := Lib.hid (HT.out _ hst)
  clear hq hst HC HT
  go_upto_region 11 with (fail)
  have H1 : Hid (One w (w14.alloc (.cells #[.int .i64 3, .int .i64 4, .int .i64 0, .int .i64 0, .int .i64 0, .int .i64 0, .bool false, .slice A13 55 c13, .slice none 0 0] 30)) p q6 [(w14.heap.size, #[.int .i64 3, .int .i64 4, .int .i64 0, .int .i64 0, .int .i64 0, .int .i64 0, .bool false, .slice A13 55 c13, .slice none 0 0]), (gc, #[.int .i64 3, .int .i64 4, .int .i64 150, .int .i64 0, .int .i64 0, .int .i64 0, .bool false, .slice A10 18 c10, .slice none 0 0]), (gb, #[.int .i64 3, .int .i64 4, .int .i64 120, .int .i64 0, .int .i64 0, .int .i64 0, .bool false, .slice A6 30 c6, .slice none 0 0]), (ga, #[.int .i64 3, .int .i64 4, .int .i64 0, .int .i64 0, .int .i64 0, .int .i64 0, .bool false, .slice A4 120 c4, .slice none 0 0])]) := Lib.hid (H.out.frame #[.int .i64 3, .int .i64 4, .int .i64 0, .int .i64 0, .int .i64 0, .int .i64 0, .bool false, .slice A13 55 c13, .slice none 0 0])
  obtain ⟨gd, hgd⟩ : ∃ g, w14.heap.size = g := ⟨_, rfl⟩
  obtain ⟨w15, hw15⟩ : ∃ x, w14.alloc (.cells #[.int .i64 3, .int .i64 4, .int .i64 0, .int .i64 0, .int .i64 0, .int .i64 0, .bool false, .slice A13 55 c13, .slice none 0 0] 30) = x := ⟨_, rfl⟩
  rw [hw15, hgd] at H1 ⊢
  clear H hw15 hgd
  have H := H1
  clear H1
  have hg := H.out.get ga _ (.tail _ (.tail _ (.tail _ (.head _))))
  have dga0 := cell_slot (o := 0) hg rfl
  have dga1 := cell_slot (o := 1) hg rfl
  have dga2 := cell_slot (o := 2) hg rfl
  have dga3 := cell_slot (o := 3) hg rfl
  have dga4 := cell_slot (o := 4) hg rfl
  have dga5 := cell_slot (o := 5) hg rfl
  have dga6 := cell_slot (o := 6) hg rfl
  have dga7 := cell_slot (o := 7) hg rfl
  have dga8 := cell_slot (o := 8) hg rfl
  clear hg
  obtain ⟨F, x, y, c, hs, hr⟩ := H.out
  have HC := Lib.hid (acked_st hs ok6 3 4 0 0 0 0 false A4 120 c4 none 0 0 (by decide) (by decide))
  have HT := Lib.hid (fun w' (ht : StTo w15 w' p F q7) => One.to hs hr ht)
  clear hs hr H
  go_wp2_with fail
  refine HC.out.mono ?_
  rintro e w16 hq
  obtain ⟨rfl, hst⟩ : e = .returned (.tuple #[]) ∧ StTo w15 w16 p F q7 := by rw [e8] at hq; exact hq
  have H := Lib.hid (HT.out _ hst)
  clear hq hst HC HT
  clear dga0 dga1 dga2 dga3 dga4 dga5 dga6 dga7 dga8
  go_upto_region 12 with (fail)
  obtain ⟨F, x, y, c, hs, hr⟩ := H.out
  have HC := Lib.hid (next_st hs ok7 999 0 (by decide))
  have HT := Lib.hid (fun w' (ht : StTo w16 w' p F q7) => One.to hs hr ht)
  clear hs hr H
  go_wp2_with fail
  refine HC.out.mono ?_
  rintro e w17 hq
  obtain ⟨rfl, hst⟩ : e = .returned (.tuple #[.agg #[.int .i64 0, .int .i64 0, .int .i64 0, .int .i64 0, .int .i64 0, .int .i64 0, .bool false, .slice none 0 0, .slice none 0 0], .int .i64 0, .bool false]) ∧ StTo w16 w17 p F q7 := next_no hq e9
  have H := Lib.hid (HT.out _ hst)
  clear hq hst HC HT
  go_wp2_with fail
  have H1 : Hid (One w (w17.alloc (.cells #[.int .i64 0, .int .i64 0, .int .i64 0, .int .i64 0, .int .i64 0, .int .i64 0, .bool false, .slice none 0 0, .slice none 0 0] 30)) p q7 [(gd, #[.int .i64 3, .int .i64 4, .int .i64 0, .int .i64 0, .int .i64 0, .int .i64 0, .bool false, .slice A13 55 c13, .slice none 0 0]), (gc, #[.int .i64 3, .int .i64 4, .int .i64 150, .int .i64 0, .int .i64 0, .int .i64 0, .bool false, .slice A10 18 c10, .slice none 0 0]), (gb, #[.int .i64 3, .int .i64 4, .int .i64 120, .int .i64 0, .int .i64 0, .int .i64 0, .bool false, .slice A6 30 c6, .slice none 0 0]), (ga, #[.int .i64 3, .int .i64 4, .int .i64 0, .int .i64 0, .int .i64 0, .int .i64 0, .bool false, .slice A4 120 c4, .slice none 0 0])]) := Lib.hid (H.out.below ((Below.refl _ _).alloc (Nat.le_refl _) _))
  obtain ⟨w18, hw18⟩ : ∃ x, w17.alloc (.cells #[.int .i64 0, .int .i64 0, .int .i64 0, .int .i64 0, .int .i64 0, .int .i64 0, .bool false, .slice none 0 0, .slice none 0 0] 30) = x := ⟨_, rfl⟩
  rw [hw18] at H1 ⊢
  clear H hw18
  have H := H1
  clear H1
  have HL0 : Hid (One w w18 p (lq 0) [(gd, #[.int .i64 3, .int .i64 4, .int .i64 0, .int .i64 0, .int .i64 0, .int .i64 0, .bool false, .slice A13 55 c13, .slice none 0 0]), (gc, #[.int .i64 3, .int .i64 4, .int .i64 150, .int .i64 0, .int .i64 0, .int .i64 0, .bool false, .slice A10 18 c10, .slice none 0 0]), (gb, #[.int .i64 3, .int .i64 4, .int .i64 120, .int .i64 0, .int .i64 0, .int .i64 0, .bool false, .slice A6 30 c6, .slice none 0 0]), (ga, #[.int .i64 3, .int .i64 4, .int .i64 0, .int .i64 0, .int .i64 0, .int .i64 0, .bool false, .slice A4 120 c4, .slice none 0 0])]) := H
  clear H
  go_loopw [] (fun wr => ∃ k : Nat, k ≤ 2 ∧ Hid (One w wr p (lq k) [(gd, #[.int .i64 3, .int .i64 4, .int .i64 0, .int .i64 0, .int .i64 0, .int .i64 0, .bool false, .slice A13 55 c13, .slice none 0 0]), (gc, #[.int .i64 3, .int .i64 4, .int .i64 150, .int .i64 0, .int .i64 0, .int .i64 0, .bool false, .slice A10 18 c10, .slice none 0 0]), (gb, #[.int .i64 3, .int .i64 4, .int .i64 120, .int .i64 0, .int .i64 0, .int .i64 0, .bool false, .slice A6 30 c6, .slice none 0 0]), (ga, #[.int .i64 3, .int .i64 4, .int .i64 0, .int .i64 0, .int .i64 0, .int .i64 0, .bool false, .slice A4 120 c4, .slice none 0 0])])) (fun wr => usedAt wr p)
  case atStart => exact ⟨0, by decide, HL0⟩
  case round =>
    clear HL0
    obtain ⟨k, hk, HK⟩ := hrel
    rcases (by omega : k = 0 ∨ k = 1 ∨ k = 2) with rfl | rfl | rfl
    · have H : Hid (One w wr p q7 [(gd, #[.int .i64 3, .int .i64 4, .int .i64 0, .int .i64 0, .int .i64 0, .int .i64 0, .bool false, .slice A13 55 c13, .slice none 0 0]), (gc, #[.int .i64 3, .int .i64 4, .int .i64 150, .int .i64 0, .int .i64 0, .int .i64 0, .bool false, .slice A10 18 c10, .slice none 0 0]), (gb, #[.int .i64 3, .int .i64 4, .int .i64 120, .int .i64 0, .int .i64 0, .int .i64 0, .bool false, .slice A6 30 c6, .slice none 0 0]), (ga, #[.int .i64 3, .int .i64 4, .int .i64 0, .int .i64 0, .int .i64 0, .int .i64 0, .bool false, .slice A4 120 c4, .slice none 0 0])]) := HK
      clear HK hk
      obtain ⟨F, x, y, c, hs, hr⟩ := H.out
      have HC := Lib.hid (next_st hs ok7 999 999 (by decide))
      have HT := Lib.hid (fun w' (ht : StTo wr w' p F q8) => One.to hs hr ht)
      have HU0 := Lib.hid (used_of hs)
      clear hs hr H
      go_wp2_with fail
      refine HC.out.mono ?_
      rintro e wb hq
      obtain ⟨A, c2, rfl, hst⟩ : ∃ (A : Option Addr) (c2 : Nat), e = .returned (.tuple #[.agg #[.int .i64 3, .int .i64 4, .int .i64 168, .int .i64 0, .int .i64 0, .int .i64 0, .bool false, .slice A 120 c2, .slice none 0 0], .int .i64 120, .bool true]) ∧ StTo wr wb p F q8 := next_yes (a := 168) (n := 120) hq e10
      have H := Lib.hid ((HT.out _ hst).below ((Below.refl _ _).alloc (Nat.le_refl _) (.cells #[.int .i64 3, .int .i64 4, .int .i64 168, .int .i64 0, .int .i64 0, .int .i64 0, .bool false, .slice A 120 c2, .slice none 0 0] 30)))
      obtain ⟨F2, x2, y2, z2, hs2, hr2⟩ := H.out
      have HU1 := Lib.hid (used_of hs2)
      clear hq hst HC HT hs2 hr2
      go_wp2_with fail
      go_roundw
      case rel => exact ⟨1, by decide, H⟩
      case measure => rw [HU0.out, HU1.out]; decide
    · have H : Hid (One w wr p q8 [(gd, #[.int .i64 3, .int .i64 4, .int .i64 0, .int .i64 0, .int .i64 0, .int .i64 0, .bool false, .slice A13 55 c13, .slice none 0 0]), (gc, #[.int .i64 3, .int .i64 4, .int .i64 150, .int .i64 0, .int .i64 0, .int .i64 0, .bool false, .slice A10 18 c10, .slice none 0 0]), (gb, #[.int .i64 3, .int .i64 4, .int .i64 120, .int .i64 0, .int .i64 0, .int .i64 0, .bool false, .slice A6 30 c6, .slice none 0 0]), (ga, #[.int .i64 3, .int .i64 4, .int .i64 0, .int .i64 0, .int .i64 0, .int .i64 0, .bool false, .slice A4 120 c4, .slice none 0 0])]) := HK
      clear HK hk
      obtain ⟨F, x, y, c, hs, hr⟩ := H.out
      have HC := Lib.hid (next_st hs ok8 999 999 (by decide))
      have HT := Lib.hid (fun w' (ht : StTo wr w' p F q9) => One.to hs hr ht)
      have HU0 := Lib.hid (used_of hs)
      clear hs hr H
      go_wp2_with fail
      refine HC.out.mono ?_
      rintro e wb hq
      obtain ⟨A, c2, rfl, hst⟩ : ∃ (A : Option Addr) (c2 : Nat), e = .returned (.tuple #[.agg #[.int .i64 3, .int .i64 4, .int .i64 288, .int .i64 0, .int .i64 0, .int .i64 0, .bool false, .slice A 112 c2, .slice none 0 0], .int .i64 112, .bool true]) ∧ StTo wr wb p F q9 := next_yes (a := 288) (n := 112) hq e11
      have H := Lib.hid ((HT.out _ hst).below ((Below.refl _ _).alloc (Nat.le_refl _) (.cells #[.int .i64 3, .int .i64 4, .int .i64 288, .int .i64 0, .int .i64 0, .int .i64 0, .bool false, .slice A 112 c2, .slice none 0 0] 30)))
      obtain ⟨F2, x2, y2, z2, hs2, hr2⟩ := H.out
      have HU1 := Lib.hid (used_of hs2)
      clear hq hst HC HT hs2 hr2
      go_wp2_with fail
      go_roundw
      case rel => exact ⟨2, by decide, H⟩
      case measure => rw [HU0.out, HU1.out]; decide
    · have H : Hid (One w wr p q9 [(gd, #[.int .i64 3, .int .i64 4, .int .i64 0, .int .i64 0, .int .i64 0, .int .i64 0, .bool false, .slice A13 55 c13, .slice none 0 0]), (gc, #[.int .i64 3, .int .i64 4, .int .i64 150, .int .i64 0, .int .i64 0, .int .i64 0, .bool false, .slice A10 18 c10, .slice none 0 0]), (gb, #[.int .i64 3, .int .i64 4, .int .i64 120, .int .i64 0, .int .i64 0, .int .i64 0, .bool false, .slice A6 30 c6, .slice none 0 0]), (ga, #[.int .i64 3, .int .i64 4, .int .i64 0, .int .i64 0, .int .i64 0, .int .i64 0, .bool false, .slice A4 120 c4, .slice none 0 0])]) := HK
      clear HK hk
      obtain ⟨F, x, y, c, hs, hr⟩ := H.out
      have HC := Lib.hid (next_st hs ok9 999 999 (by decide))
      have HT := Lib.hid (fun w' (ht : StTo wr w' p F q9) => One.to hs hr ht)
      have HU0 := Lib.hid (used_of hs)
      clear hs hr H
      go_wp2_with fail
      refine HC.out.mono ?_
      rintro e wb hq
      obtain ⟨rfl, hst⟩ : e = .returned (.tuple #[.agg #[.int .i64 0, .int .i64 0, .int .i64 0, .int .i64 0, .int .i64 0, .int .i64 0, .bool false, .slice none 0 0, .slice none 0 0], .int .i64 0, .bool false]) ∧ StTo wr wb p F q9 := next_no hq e12
      have H := Lib.hid ((HT.out _ hst).below ((Below.refl _ _).alloc (Nat.le_refl _) (.cells #[.int .i64 0, .int .i64 0, .int .i64 0, .int .i64 0, .int .i64 0, .int .i64 0, .bool false, .slice none 0 0, .slice none 0 0] 30)))
      clear hq hst HC HT HU0
      go_upto_region 15 with (fail)
      obtain ⟨w19, hwz⟩ : ∃ x, wb.alloc (.cells #[.int .i64 0, .int .i64 0, .int .i64 0, .int .i64 0, .int .i64 0, .int .i64 0, .bool false, .slice none 0 0, .slice none 0 0] 30) = x := ⟨_, rfl⟩
      rw [hwz] at H ⊢
      clear hwz
      have hu : w19.cell? ⟨p, 1, none⟩ = some (.int .i64 400) := by obtain ⟨F, x, y, c, hs, hr⟩ := H.out; exact hs.cells.2.1
      go_upto_region 16 with (fail)
      clear hu
      obtain ⟨F, x, y, c, hs, hr⟩ := H.out
      have HC := Lib.hid (reset_st hs (by decide) 7 450)
      have HT := Lib.hid (fun w' (ht : StTo w19 w' p F q10) => One.to hs hr ht)
      clear hs hr H
      go_wp2_with fail
      refine HC.out.mono ?_
      rintro e w20 hq
      obtain ⟨rfl, hst⟩ : e = .returned (.int .i64 0) ∧ StTo w19 w20 p F q10 := by rw [e13] at hq; exact hq
      have H := Lib.hid (HT.out _ hst)
      clear hq hst HC HT
      go_upto_region 17 with (fail)
      obtain ⟨F, x, y, c, hs, hr⟩ := H.out
      have HC := Lib.hid (turn_none_st hs e14)
      have HT := Lib.hid (fun w' (ht : StTo w20 w' p F q10) => One.to hs hr ht)
      clear hs hr H
      go_wp2_with fail
      refine HC.out.mono ?_
      rintro e w21 hq
      obtain ⟨rfl, hst⟩ : e = .returned (.tuple #[.agg #[.int .i64 0, .int .i64 0, .int .i64 0, .int .i64 0, .int .i64 0, .int .i64 0, .bool false, .slice none 0 0, .slice none 0 0], .bool false]) ∧ StTo w20 w21 p F q10 := And.intro hq.1 hq.2
      have H := Lib.hid (HT.out _ hst)
      clear hq hst HC HT
      go_upto_region 18 with (fail)
      have H1 : Hid (One w (w21.alloc (.cells #[.int .i64 0, .int .i64 0, .int .i64 0, .int .i64 0, .int .i64 0, .int .i64 0, .bool false, .slice none 0 0, .slice none 0 0] 30)) p q10 [(gd, #[.int .i64 3, .int .i64 4, .int .i64 0, .int .i64 0, .int .i64 0, .int .i64 0, .bool false, .slice A13 55 c13, .slice none 0 0]), (gc, #[.int .i64 3, .int .i64 4, .int .i64 150, .int .i64 0, .int .i64 0, .int .i64 0, .bool false, .slice A10 18 c10, .slice none 0 0]), (gb, #[.int .i64 3, .int .i64 4, .int .i64 120, .int .i64 0, .int .i64 0, .int .i64 0, .bool false, .slice A6 30 c6, .slice none 0 0]), (ga, #[.int .i64 3, .int .i64 4, .int .i64 0, .int .i64 0, .int .i64 0, .int .i64 0, .bool false, .slice A4 120 c4, .slice none 0 0])]) := Lib.hid (H.out.below ((Below.refl _ _).alloc (Nat.le_refl _) _))
      obtain ⟨w22, hw22⟩ : ∃ x, w21.alloc (.cells #[.int .i64 0, .int .i64 0, .int .i64 0, .int .i64 0, .int .i64 0, .int .i64 0, .bool false, .slice none 0 0, .slice none 0 0] 30) = x := ⟨_, rfl⟩
      rw [hw22] at H1 ⊢
      clear H hw22
      have H := H1
      clear H1
      obtain ⟨F, x, y, c, hs, hr⟩ := H.out
      have HC := Lib.hid (Cr.raise_any hs.cred 1000)
      have HT := Lib.hid (fun w' (ht : StTo w22 w' p F q11) => One.to hs hr ht)
      have HQ := Lib.hid (fun (w' : World) (hcr : Cr.CredTo w22 w' p 0 41 (stC q10 x y c) 1000 400) => hs.toCred hcr)
      clear hs hr H
      go_wp2_with fail
      refine HC.out.mono ?_
      rintro e w23 ⟨rfl, hcr⟩
      have H := Lib.hid (HT.out _ (HQ.out _ hcr))
      clear hcr HC HT HQ
      go_upto_region 19 with (fail)
      obtain ⟨F, x, y, c, hs, hr⟩ := H.out
      have HC := Lib.hid (next_st hs ok11 999 999 (by decide))
      have HT := Lib.hid (fun w' (ht : StTo w23 w' p F q12) => One.to hs hr ht)
      clear hs hr H
      go_wp2_with fail
      refine HC.out.mono ?_
      rintro e w24 hq
      obtain ⟨A23, c23, rfl, hst⟩ : ∃ (A23 : Option Addr) (c23 : Nat), e = .returned (.tuple #[.agg #[.int .i64 3, .int .i64 4, .int .i64 400, .int .i64 0, .int .i64 0, .int .i64 0, .bool false, .slice A23 50 c23, .slice none 0 0], .int .i64 50, .bool true]) ∧ StTo w23 w24 p F q12 := next_yes (a := 400) (n := 50) hq e16
      have H := Lib.hid (HT.out _ hst)
      clear hq hst HC HT
      go_upto_region 20 with (fail)
      have H1 : Hid (One w (w24.alloc (.cells #[.int .i64 3, .int .i64 4, .int .i64 400, .int .i64 0, .int .i64 0, .int .i64 0, .bool false, .slice A23 50 c23, .slice none 0 0] 30)) p q12 [(w24.heap.size, #[.int .i64 3, .int .i64 4, .int .i64 400, .int .i64 0, .int .i64 0, .int .i64 0, .bool false, .slice A23 50 c23, .slice none 0 0]), (gd, #[.int .i64 3, .int .i64 4, .int .i64 0, .int .i64 0, .int .i64 0, .int .i64 0, .bool false, .slice A13 55 c13, .slice none 0 0]), (gc, #[.int .i64 3, .int .i64 4, .int .i64 150, .int .i64 0, .int .i64 0, .int .i64 0, .bool false, .slice A10 18 c10, .slice none 0 0]), (gb, #[.int .i64 3, .int .i64 4, .int .i64 120, .int .i64 0, .int .i64 0, .int .i64 0, .bool false, .slice A6 30 c6, .slice none 0 0]), (ga, #[.int .i64 3, .int .i64 4, .int .i64 0, .int .i64 0, .int .i64 0, .int .i64 0, .bool false, .slice A4 120 c4, .slice none 0 0])]) := Lib.hid (H.out.frame #[.int .i64 3, .int .i64 4, .int .i64 400, .int .i64 0, .int .i64 0, .int .i64 0, .bool false, .slice A23 50 c23, .slice none 0 0])
      obtain ⟨gx, hgx⟩ : ∃ g, w24.heap.size = g := ⟨_, rfl⟩
      obtain ⟨w25, hw25⟩ : ∃ x, w24.alloc (.cells #[.int .i64 3, .int .i64 4, .int .i64 400, .int .i64 0, .int .i64 0, .int .i64 0, .bool false, .slice A23 50 c23, .slice none 0 0] 30) = x := ⟨_, rfl⟩
      rw [hw25, hgx] at H1 ⊢
      clear H hw25 hgx
      have H := H1
      clear H1
      obtain ⟨F, x, y, c, hs, hr⟩ := H.out
      have HC := Lib.hid (turn_some_st hs q13 e17)
      have HT := Lib.hid (fun w' (ht : StTo w25 w' p F q13) => One.to hs hr ht)
      clear hs hr H
      go_wp2_with fail
      refine HC.out.mono ?_
      rintro e w26 hq
      obtain ⟨rfl, hst⟩ : e = .returned (.tuple #[.agg #[.int .i64 4, .int .i64 4, .int .i64 450, .int .i64 7, .int .i64 450, .int .i64 0, .bool false, .slice none 0 0, .slice none 0 0], .bool true]) ∧ StTo w25 w26 p F q13 := And.intro hq.1 hq.2
      have H := Lib.hid (HT.out _ hst)
      clear hq hst HC HT
      go_upto_region 21 with (fail)
      have H1 : Hid (One w (w26.alloc (.cells #[.int .i64 4, .int .i64 4, .int .i64 450, .int .i64 7, .int .i64 450, .int .i64 0, .bool false, .slice none 0 0, .slice none 0 0] 30)) p q13 [(w26.heap.size, #[.int .i64 4, .int .i64 4, .int .i64 450, .int .i64 7, .int .i64 450, .int .i64 0, .bool false, .slice none 0 0, .slice none 0 0]), (gx, #[.int .i64 3, .int .i64 4, .int .i64 400, .int .i64 0, .int .i64 0, .int .i64 0, .bool false, .slice A23 50 c23, .slice none 0 0]), (gd, #[.int .i64 3, .int .i64 4, .int .i64 0, .int .i64 0, .int .i64 0, .int .i64 0, .bool false, .slice A13 55 c13, .slice none 0 0]), (gc, #[.int .i64 3, .int .i64 4, .int .i64 150, .int .i64 0, .int .i64 0, .int .i64 0, .bool false, .slice A10 18 c10, .slice none 0 0]), (gb, #[.int .i64 3, .int .i64 4, .int .i64 120, .int .i64 0, .int .i64 0, .int .i64 0, .bool false, .slice A6 30 c6, .slice none 0 0]), (ga, #[.int .i64 3, .int .i64 4, .int .i64 0, .int .i64 0, .int .i64 0, .int .i64 0, .bool false, .slice A4 120 c4, .slice none 0 0])]) := Lib.hid (H.out.frame #[.int .i64 4, .int .i64 4, .int .i64 450, .int .i64 7, .int .i64 450, .int .i64 0, .bool false, .slice none 0 0, .slice none 0 0])
      obtain ⟨gf, hgf⟩ : ∃ g, w26.heap.size = g := ⟨_, rfl⟩
      obtain ⟨w27, hw27⟩ : ∃ x, w26.alloc (.cells #[.int .i64 4, .int .i64 4, .int .i64 450, .int .i64 7, .int .i64 450, .int .i64 0, .bool false, .slice none 0 0, .slice none 0 0] 30) = x := ⟨_, rfl⟩
      rw [hw27, hgf] at H1 ⊢
      clear H hw27 hgf
      have H := H1
      clear H1
      obtain ⟨F, x, y, c, hs, hr⟩ := H.out
      have HC := Lib.hid (reset_st hs (by decide) 9 450)
      have HT := Lib.hid (fun w' (ht : StTo w27 w' p F q13) => One.to hs hr ht)
      clear hs hr H
      go_wp2_with fail
      refine HC.out.mono ?_
      rintro e w28 hq
      obtain ⟨rfl, hst⟩ : e = .returned (.int .i64 6) ∧ StTo w27 w28 p F q13 := by rw [e18] at hq; exact hq
      have H := Lib.hid (HT.out _ hst)
      clear hq hst HC HT
      go_upto_region 22 with (fail)
      obtain ⟨F, x, y, c, hs, hr⟩ := H.out
      have HC := Lib.hid (reset_st hs (by decide) 9 100)
      have HT := Lib.hid (fun w' (ht : StTo w28 w' p F q14) => One.to hs hr ht)
      clear hs hr H
      go_wp2_with fail
      refine HC.out.mono ?_
      rintro e w29 hq
      obtain ⟨rfl, hst⟩ : e = .returned (.int .i64 0) ∧ StTo w28 w29 p F q14 := by rw [e19] at hq; exact hq
      have H := Lib.hid (HT.out _ hst)
      clear hq hst HC HT
      go_upto_region 23 with (fail)
      obtain ⟨F, x, y, c, hs, hr⟩ := H.out
      have HC := Lib.hid (turn_some_st hs q15 e20)
      have HT := Lib.hid (fun w' (ht : StTo w29 w' p F q15) => One.to hs hr ht)
      clear hs hr H
      go_wp2_with fail
      refine HC.out.mono ?_
      rintro e w30 hq
      obtain ⟨rfl, hst⟩ : e = .returned (.tuple #[.agg #[.int .i64 4, .int .i64 4, .int .i64 450, .int .i64 7, .int .i64 100, .int .i64 0, .bool false, .slice none 0 0, .slice none 0 0], .bool true]) ∧ StTo w29 w30 p F q15 := And.intro hq.1 hq.2
      have H := Lib.hid (HT.out _ hst)
      clear hq hst HC HT
      go_upto_region 24 with (fail)
      have H1 : Hid (One w (w30.alloc (.cells #[.int .i64 4, .int .i64 4, .int .i64 450, .int .i64 7, .int .i64 100, .int .i64 0, .bool false, .slice none 0 0, .slice none 0 0] 30)) p q15 [(w30.heap.size, #[.int .i64 4, .int .i64 4, .int .i64 450, .int .i64 7, .int .i64 100, .int .i64 0, .bool false, .slice none 0 0, .slice none 0 0]), (gf, #[.int .i64 4, .int .i64 4, .int .i64 450, .int .i64 7, .int .i64 450, .int .i64 0, .bool false, .slice none 0 0, .slice none 0 0]), (gx, #[.int .i64 3, .int .i64 4, .int .i64 400, .int .i64 0, .int .i64 0, .int .i64 0, .bool false, .slice A23 50 c23, .slice none 0 0]), (gd, #[.int .i64 3, .int .i64 4, .int .i64 0, .int .i64 0, .int .i64 0, .int .i64 0, .bool false, .slice A13 55 c13, .slice none 0 0]), (gc, #[.int .i64 3, .int .i64 4, .int .i64 150, .int .i64 0, .int .i64 0, .int .i64 0, .bool false, .slice A10 18 c10, .slice none 0 0]), (gb, #[.int .i64 3, .int .i64 4, .int .i64 120, .int .i64 0, .int .i64 0, .int .i64 0, .bool false, .slice A6 30 c6, .slice none 0 0]), (ga, #[.int .i64 3, .int .i64 4, .int .i64 0, .int .i64 0, .int .i64 0, .int .i64 0, .bool false, .slice A4 120 c4, .slice none 0 0])]) := Lib.hid (H.out.frame #[.int .i64 4, .int .i64 4, .int .i64 450, .int .i64 7, .int .i64 100, .int .i64 0, .bool false, .slice none 0 0, .slice none 0 0])
      obtain ⟨gi, hgi⟩ : ∃ g, w30.heap.size = g := ⟨_, rfl⟩
      obtain ⟨w31, hw31⟩ : ∃ x, w30.alloc (.cells #[.int .i64 4, .int .i64 4, .int .i64 450, .int .i64 7, .int .i64 100, .int .i64 0, .bool false, .slice none 0 0, .slice none 0 0] 30) = x := ⟨_, rfl⟩
      rw [hw31, hgi] at H1 ⊢
      clear H hw31 hgi
      have H := H1
      clear H1
      obtain ⟨F, x, y, c, hs, hr⟩ := H.out
      have HC := Lib.hid (turn_none_st hs e21)
      have HT := Lib.hid (fun w' (ht : StTo w31 w' p F q15) => One.to hs hr ht)
      clear hs hr H
      go_wp2_with fail
      refine HC.out.mono ?_
      rintro e w32 hq
      obtain ⟨rfl, hst⟩ : e = .returned (.tuple #[.agg #[.int .i64 0, .int .i64 0, .int .i64 0, .int .i64 0, .int .i64 0, .int .i64 0, .bool false, .slice none 0 0, .slice none 0 0], .bool false]) ∧ StTo w31 w32 p F q15 := And.intro hq.1 hq.2
      have H := Lib.hid (HT.out _ hst)
      clear hq hst HC HT
      go_upto_region 25 with (fail)
      have H1 : Hid (One w (w32.alloc (.cells #[.int .i64 0, .int .i64 0, .int .i64 0, .int .i64 0, .int .i64 0, .int .i64 0, .bool false, .slice none 0 0, .slice none 0 0] 30)) p q15 [(gi, #[.int .i64 4, .int .i64 4, .int .i64 450, .int .i64 7, .int .i64 100, .int .i64 0, .bool false, .slice none 0 0, .slice none 0 0]), (gf, #[.int .i64 4, .int .i64 4, .int .i64 450, .int .i64 7, .int .i64 450, .int .i64 0, .bool false, .slice none 0 0, .slice none 0 0]), (gx, #[.int .i64 3, .int .i64 4, .int .i64 400, .int .i64 0, .int .i64 0, .int .i64 0, .bool false, .slice A23 50 c23, .slice none 0 0]), (gd, #[.int .i64 3, .int .i64 4, .int .i64 0, .int .i64 0, .int .i64 0, .int .i64 0, .bool false, .slice A13 55 c13, .slice none 0 0]), (gc, #[.int .i64 3, .int .i64 4, .int .i64 150, .int .i64 0, .int .i64 0, .int .i64 0, .bool false, .slice A10 18 c10, .slice none 0 0]), (gb, #[.int .i64 3, .int .i64 4, .int .i64 120, .int .i64 0, .int .i64 0, .int .i64 0, .bool false, .slice A6 30 c6, .slice none 0 0]), (ga, #[.int .i64 3, .int .i64 4, .int .i64 0, .int .i64 0, .int .i64 0, .int .i64 0, .bool false, .slice A4 120 c4, .slice none 0 0])]) := Lib.hid (H.out.below ((Below.refl _ _).alloc (Nat.le_refl _) _))
      obtain ⟨w33, hw33⟩ : ∃ x, w32.alloc (.cells #[.int .i64 0, .int .i64 0, .int .i64 0, .int .i64 0, .int .i64 0, .int .i64 0, .bool false, .slice none 0 0, .slice none 0 0] 30) = x := ⟨_, rfl⟩
      rw [hw33] at H1 ⊢
      clear H hw33
      have H := H1
      clear H1
      have hg := H.out.get gf _ (.tail _ (.head _))
      have dgf0 := cell_slot (o := 0) hg rfl
      have dgf1 := cell_slot (o := 1) hg rfl
      have dgf2 := cell_slot (o := 2) hg rfl
      have dgf3 := cell_slot (o := 3) hg rfl
      have dgf4 := cell_slot (o := 4) hg rfl
      have dgf5 := cell_slot (o := 5) hg rfl
      have dgf6 := cell_slot (o := 6) hg rfl
      have dgf7 := cell_slot (o := 7) hg rfl
      have dgf8 := cell_slot (o := 8) hg rfl
      clear hg
      obtain ⟨F, x, y, c, hs, hr⟩ := H.out
      have HC := Lib.hid (lost_st hs ok15 4 4 450 7 450 0 false none 0 0 none 0 0 (by decide) (by decide))
      have HT := Lib.hid (fun w' (ht : StTo w33 w' p F q15) => One.to hs hr ht)
      clear hs hr H
      go_wp2_with fail
      refine HC.out.mono ?_
      rintro e w34 hq
      obtain ⟨rfl, hst⟩ : e = .returned (.tuple #[]) ∧ StTo w33 w34 p F q15 := by rw [e22] at hq; exact hq
      have H := Lib.hid (HT.out _ hst)
      clear hq hst HC HT
      clear dgf0 dgf1 dgf2 dgf3 dgf4 dgf5 dgf6 dgf7 dgf8
      go_upto_region 26 with (fail)
      obtain ⟨F, x, y, c, hs, hr⟩ := H.out
      have HC := Lib.hid (turn_none_st hs e21)
      have HT := Lib.hid (fun w' (ht : StTo w34 w' p F q15) => One.to hs hr ht)
      clear hs hr H
      go_wp2_with fail
      refine HC.out.mono ?_
      rintro e w35 hq
      obtain ⟨rfl, hst⟩ : e = .returned (.tuple #[.agg #[.int .i64 0, .int .i64 0, .int .i64 0, .int .i64 0, .int .i64 0, .int .i64 0, .bool false, .slice none 0 0, .slice none 0 0], .bool false]) ∧ StTo w34 w35 p F q15 := And.intro hq.1 hq.2
      have H := Lib.hid (HT.out _ hst)
      clear hq hst HC HT
      go_upto_region 27 with (fail)
      have H1 : Hid (One w (w35.alloc (.cells #[.int .i64 0, .int .i64 0, .int .i64 0, .int .i64 0, .int .i64 0, .int .i64 0, .bool false, .slice none 0 0, .slice none 0 0] 30)) p q15 [(gi, #[.int .i64 4, .int .i64 4, .int .i64 450, .int .i64 7, .int .i64 100, .int .i64 0, .bool false, .slice none 0 0, .slice none 0 0]), (gf, #[.int .i64 4, .int .i64 4, .int .i64 450, .int .i64 7, .int .i64 450, .int .i64 0, .bool false, .slice none 0 0, .slice none 0 0]), (gx, #[.int .i64 3, .int .i64 4, .int .i64 400, .int .i64 0, .int .i64 0, .int .i64 0, .bool false, .slice A23 50 c23, .slice none 0 0]), (gd, #[.int .i64 3, .int .i64 4, .int .i64 0, .int .i64 0, .int .i64 0, .int .i64 0, .bool false, .slice A13 55 c13, .slice none 0 0]), (gc, #[.int .i64 3, .int .i64 4, .int .i64 150, .int .i64 0, .int .i64 0, .int .i64 0, .bool false, .slice A10 18 c10, .slice none 0 0]), (gb, #[.int .i64 3, .int .i64 4, .int .i64 120, .int .i64 0, .int .i64 0, .int .i64 0, .bool false, .slice A6 30 c6, .slice none 0 0]), (ga, #[.int .i64 3, .int .i64 4, .int .i64 0, .int .i64 0, .int .i64 0, .int .i64 0, .bool false, .slice A4 120 c4, .slice none 0 0])]) := Lib.hid (H.out.below ((Below.refl _ _).alloc (Nat.le_refl _) _))
      obtain ⟨w36, hw36⟩ : ∃ x, w35.alloc (.cells #[.int .i64 0, .int .i64 0, .int .i64 0, .int .i64 0, .int .i64 0, .int .i64 0, .bool false, .slice none 0 0, .slice none 0 0] 30) = x := ⟨_, rfl⟩
      rw [hw36] at H1 ⊢
      clear H hw36
      have H := H1
      clear H1
      have hg := H.out.get gi _ (.head _)
      have dgi0 := cell_slot (o := 0) hg rfl
      have dgi1 := cell_slot (o := 1) hg rfl
      have dgi2 := cell_slot (o := 2) hg rfl
      have dgi3 := cell_slot (o := 3) hg rfl
      have dgi4 := cell_slot (o := 4) hg rfl
      have dgi5 := cell_slot (o := 5) hg rfl
      have dgi6 := cell_slot (o := 6) hg rfl
      have dgi7 := cell_slot (o := 7) hg rfl
      have dgi8 := cell_slot (o := 8) hg rfl
      clear hg
      obtain ⟨F, x, y, c, hs, hr⟩ := H.out
      have HC := Lib.hid (lost_st hs ok15 4 4 450 7 100 0 false none 0 0 none 0 0 (by decide) (by decide))
      have HT := Lib.hid (fun w' (ht : StTo w36 w' p F q16) => One.to hs hr ht)
      clear hs hr H
      go_wp2_with fail
      refine HC.out.mono ?_
      rintro e w37 hq
      obtain ⟨rfl, hst⟩ : e = .returned (.tuple #[]) ∧ StTo w36 w37 p F q16 := by rw [e23] at hq; exact hq
      have H := Lib.hid (HT.out _ hst)
      clear hq hst HC HT
      clear dgi0 dgi1 dgi2 dgi3 dgi4 dgi5 dgi6 dgi7 dgi8
      go_upto_region 28 with (fail)
      obtain ⟨F, x, y, c, hs, hr⟩ := H.out
      have HC := Lib.hid (turn_some_st hs q15 e24)
      have HT := Lib.hid (fun w' (ht : StTo w37 w' p F q15) => One.to hs hr ht)
      clear hs hr H
      go_wp2_with fail
      refine HC.out.mono ?_
      rintro e w38 hq
      obtain ⟨rfl, hst⟩ : e = .returned (.tuple #[.agg #[.int .i64 4, .int .i64 4, .int .i64 450, .int .i64 7, .int .i64 100, .int .i64 0, .bool false, .slice none 0 0, .slice none 0 0], .bool true]) ∧ StTo w37 w38 p F q15 := And.intro hq.1 hq.2
      have H := Lib.hid (HT.out _ hst)
      clear hq hst HC HT
      go_upto_region 29 with (fail)
      have H1 : Hid (One w (w38.alloc (.cells #[.int .i64 4, .int .i64 4, .int .i64 450, .int .i64 7, .int .i64 100, .int .i64 0, .bool false, .slice none 0 0, .slice none 0 0] 30)) p q15 [(w38.heap.size, #[.int .i64 4, .int .i64 4, .int .i64 450, .int .i64 7, .int .i64 100, .int .i64 0, .bool false, .slice none 0 0, .slice none 0 0]), (gi, #[.int .i64 4, .int .i64 4, .int .i64 450, .int .i64 7, .int .i64 100, .int .i64 0, .bool false, .slice none 0 0, .slice none 0 0]), (gf, #[.int .i64 4, .int .i64 4, .int .i64 450, .int .i64 7, .int .i64 450, .int .i64 0, .bool false, .slice none 0 0, .slice none 0 0]), (gx, #[.int .i64 3, .int .i64 4, .int .i64 400, .int .i64 0, .int .i64 0, .int .i64 0, .bool false, .slice A23 50 c23, .slice none 0 0]), (gd, #[.int .i64 3, .int .i64 4, .int .i64 0, .int .i64 0, .int .i64 0, .int .i64 0, .bool false, .slice A13 55 c13, .slice none 0 0]), (gc, #[.int .i64 3, .int .i64 4, .int .i64 150, .int .i64 0, .int .i64 0, .int .i64 0, .bool false, .slice A10 18 c10, .slice none 0 0]), (gb, #[.int .i64 3, .int .i64 4, .int .i64 120, .int .i64 0, .int .i64 0, .int .i64 0, .bool false, .slice A6 30 c6, .slice none 0 0]), (ga, #[.int .i64 3, .int .i64 4, .int .i64 0, .int .i64 0, .int .i64 0, .int .i64 0, .bool false, .slice A4 120 c4, .slice none 0 0])]) := Lib.hid (H.out.frame #[.int .i64 4, .int .i64 4, .int .i64 450, .int .i64 7, .int .i64 100, .int .i64 0, .bool false, .slice none 0 0, .slice none 0 0])
      obtain ⟨gj, hgj⟩ : ∃ g, w38.heap.size = g := ⟨_, rfl⟩
      obtain ⟨w39, hw39⟩ : ∃ x, w38.alloc (.cells #[.int .i64 4, .int .i64 4, .int .i64 450, .int .i64 7, .int .i64 100, .int .i64 0, .bool false, .slice none 0 0, .slice none 0 0] 30) = x := ⟨_, rfl⟩
      rw [hw39, hgj] at H1 ⊢
      clear H hw39 hgj
      have H := H1
      clear H1
      have hg := H.out.get gj _ (.head _)
      have dgj0 := cell_slot (o := 0) hg rfl
      have dgj1 := cell_slot (o := 1) hg rfl
      have dgj2 := cell_slot (o := 2) hg rfl
      have dgj3 := cell_slot (o := 3) hg rfl
      have dgj4 := cell_slot (o := 4) hg rfl
      have dgj5 := cell_slot (o := 5) hg rfl
      have dgj6 := cell_slot (o := 6) hg rfl
      have dgj7 := cell_slot (o := 7) hg rfl
      have dgj8 := cell_slot (o := 8) hg rfl
      clear hg
      obtain ⟨F, x, y, c, hs, hr⟩ := H.out
      have HC := Lib.hid (acked_st hs ok15 4 4 450 7 100 0 false none 0 0 none 0 0 (by decide) (by decide))
      have HT := Lib.hid (fun w' (ht : StTo w39 w' p F q17) => One.to hs hr ht)
      clear hs hr H
      go_wp2_with fail
      refine HC.out.mono ?_
      rintro e w40 hq
      obtain ⟨rfl, hst⟩ : e = .returned (.tuple #[]) ∧ StTo w39 w40 p F q17 := by rw [e25] at hq; exact hq
      have H := Lib.hid (HT.out _ hst)
      clear hq hst HC HT
      clear dgj0 dgj1 dgj2 dgj3 dgj4 dgj5 dgj6 dgj7 dgj8
      go_upto_region 30 with (fail)
      have hg := H.out.get ga _ (.tail _ (.tail _ (.tail _ (.tail _ (.tail _ (.tail _ (.tail _ (.head _))))))))
      have dga7 := cell_slot (o := 7) hg rfl
      clear hg
      have hg := H.out.get gb _ (.tail _ (.tail _ (.tail _ (.tail _ (.tail _ (.tail _ (.head _)))))))
      have dgb7 := cell_slot (o := 7) hg rfl
      clear hg
      have hg := H.out.get gc _ (.tail _ (.tail _ (.tail _ (.tail _ (.tail _ (.head _))))))
      have dgc2 := cell_slot (o := 2) hg rfl
      have dgc7 := cell_slot (o := 7) hg rfl
      clear hg
      have hg := H.out.get gd _ (.tail _ (.tail _ (.tail _ (.tail _ (.head _)))))
      have dgd2 := cell_slot (o := 2) hg rfl
      have dgd7 := cell_slot (o := 7) hg rfl
      clear hg
      go_upto_region 32 with (fail)
      clear dga7 dgb7 dgc2 dgc7 dgd2 dgd7
      obtain ⟨F, x, y, c, hs, hr⟩ := H.out
      have HC := Lib.hid (done_st hs (by decide))
      clear hs hr
      go_wp2_with fail
      refine HC.out.mono ?_
      rintro e w41 ⟨rfl, qn, hwq⟩
      rw [e26]
      have H1 : Hid (One w w41 p q17 [(gj, #[.int .i64 4, .int .i64 4, .int .i64 450, .int .i64 7, .int .i64 100, .int .i64 0, .bool false, .slice none 0 0, .slice none 0 0]), (gi, #[.int .i64 4, .int .i64 4, .int .i64 450, .int .i64 7, .int .i64 100, .int .i64 0, .bool false, .slice none 0 0, .slice none 0 0]), (gf, #[.int .i64 4, .int .i64 4, .int .i64 450, .int .i64 7, .int .i64 450, .int .i64 0, .bool false, .slice none 0 0, .slice none 0 0]), (gx, #[.int .i64 3, .int .i64 4, .int .i64 400, .int .i64 0, .int .i64 0, .int .i64 0, .bool false, .slice A23 50 c23, .slice none 0 0]), (gd, #[.int .i64 3, .int .i64 4, .int .i64 0, .int .i64 0, .int .i64 0, .int .i64 0, .bool false, .slice A13 55 c13, .slice none 0 0]), (gc, #[.int .i64 3, .int .i64 4, .int .i64 150, .int .i64 0, .int .i64 0, .int .i64 0, .bool false, .slice A10 18 c10, .slice none 0 0]), (gb, #[.int .i64 3, .int .i64 4, .int .i64 120, .int .i64 0, .int .i64 0, .int .i64 0, .bool false, .slice A6 30 c6, .slice none 0 0]), (ga, #[.int .i64 3, .int .i64 4, .int .i64 0, .int .i64 0, .int .i64 0, .int .i64 0, .bool false, .slice A4 120 c4, .slice none 0 0])]) := Lib.hid (H.out.below (by rw [hwq]; exact below_dm (Below.refl _ _) qn))
      clear H
      have H := H1
      clear H1 HC hwq qn
      go_upto_region 33 with (fail)
      go_wp2_with fail
      refine (HNEWZ.out w41).mono ?_
      rintro e w42 ⟨q, G1, x1, y1, c1, rfl, hz1, hG1, hb1⟩
      have H1 : Hid (Two w w42 p q17 q q18 [(gj, #[.int .i64 4, .int .i64 4, .int .i64 450, .int .i64 7, .int .i64 100, .int .i64 0, .bool false, .slice none 0 0, .slice none 0 0]), (gi, #[.int .i64 4, .int .i64 4, .int .i64 450, .int .i64 7, .int .i64 100, .int .i64 0, .bool false, .slice none 0 0, .slice none 0 0]), (gf, #[.int .i64 4, .int .i64 4, .int .i64 450, .int .i64 7, .int .i64 450, .int .i64 0, .bool false, .slice none 0 0, .slice none 0 0]), (gx, #[.int .i64 3, .int .i64 4, .int .i64 400, .int .i64 0, .int .i64 0, .int .i64 0, .bool false, .slice A23 50 c23, .slice none 0 0]), (gd, #[.int .i64 3, .int .i64 4, .int .i64 0, .int .i64 0, .int .i64 0, .int .i64 0, .bool false, .slice A13 55 c13, .slice none 0 0]), (gc, #[.int .i64 3, .int .i64 4, .int .i64 150, .int .i64 0, .int .i64 0, .int .i64 0, .bool false, .slice A10 18 c10, .slice none 0 0]), (gb, #[.int .i64 3, .int .i64 4, .int .i64 120, .int .i64 0, .int .i64 0, .int .i64 0, .bool false, .slice A6 30 c6, .slice none 0 0]), (ga, #[.int .i64 3, .int .i64 4, .int .i64 0, .int .i64 0, .int .i64 0, .int .i64 0, .bool false, .slice A4 120 c4, .slice none 0 0])]) := Lib.hid (H.out.two hz1 hG1 hb1)
      clear hz1 hG1 hb1 H
      have H := H1
      clear H1
      go_upto_region 34 with (fail)
      obtain ⟨F, x, y, c, G, x2, y2, c2, hs, hz, hr⟩ := H.out
      have HC := Lib.hid (finish_st hz)
      have HT := Lib.hid (fun w' (ht : StTo w42 w' q G q19) => Two.toZ hs hz hr ht)
      clear hs hr H hz
      go_wp2_with fail
      refine HC.out.mono ?_
      rintro e w43 hq
      obtain ⟨rfl, hst⟩ : e = .returned (.int .i64 0) ∧ StTo w42 w43 q G q19 := by rw [e27] at hq; exact hq
      have H := Lib.hid (HT.out _ hst)
      clear hq hst HC HT
      go_upto_region 35 with (fail)
      obtain ⟨F, x, y, c, G, x2, y2, c2, hs, hz, hr⟩ := H.out
      have HC := Lib.hid (next_st hz ok19 9 0 (by decide))
      have HT := Lib.hid (fun w' (ht : StTo w43 w' q G q20) => Two.toZ hs hz hr ht)
      clear hs hr H hz
      go_wp2_with fail
      refine HC.out.mono ?_
      rintro e w44 hq
      obtain ⟨A43, c43, rfl, hst⟩ : ∃ (A43 : Option Addr) (c43 : Nat), e = .returned (.tuple #[.agg #[.int .i64 3, .int .i64 1, .int .i64 0, .int .i64 0, .int .i64 0, .int .i64 0, .bool true, .slice A43 0 c43, .slice none 0 0], .int .i64 0, .bool true]) ∧ StTo w43 w44 q G q20 := next_yes (a := 0) (n := 0) hq e28
      have H := Lib.hid (HT.out _ hst)
      clear hq hst HC HT
      go_upto_region 36 with (fail)
      have H1 : Hid (Two w (w44.alloc (.cells #[.int .i64 3, .int .i64 1, .int .i64 0, .int .i64 0, .int .i64 0, .int .i64 0, .bool true, .slice A43 0 c43, .slice none 0 0] 30)) p q17 q q20 [(w44.heap.size, #[.int .i64 3, .int .i64 1, .int .i64 0, .int .i64 0, .int .i64 0, .int .i64 0, .bool true, .slice A43 0 c43, .slice none 0 0]), (gj, #[.int .i64 4, .int .i64 4, .int .i64 450, .int .i64 7, .int .i64 100, .int .i64 0, .bool false, .slice none 0 0, .slice none 0 0]), (gi, #[.int .i64 4, .int .i64 4, .int .i64 450, .int .i64 7, .int .i64 100, .int .i64 0, .bool false, .slice none 0 0, .slice none 0 0]), (gf, #[.int .i64 4, .int .i64 4, .int .i64 450, .int .i64 7, .int .i64 450, .int .i64 0, .bool false, .slice none 0 0, .slice none 0 0]), (gx, #[.int .i64 3, .int .i64 4, .int .i64 400, .int .i64 0, .int .i64 0, .int .i64 0, .bool false, .slice A23 50 c23, .slice none 0 0]), (gd, #[.int .i64 3, .int .i64 4, .int .i64 0, .int .i64 0, .int .i64 0, .int .i64 0, .bool false, .slice A13 55 c13, .slice none 0 0]), (gc, #[.int .i64 3, .int .i64 4, .int .i64 150, .int .i64 0, .int .i64 0, .int .i64 0, .bool false, .slice A10 18 c10, .slice none 0 0]), (gb, #[.int .i64 3, .int .i64 4, .int .i64 120, .int .i64 0, .int .i64 0, .int .i64 0, .bool false, .slice A6 30 c6, .slice none 0 0]), (ga, #[.int .i64 3, .int .i64 4, .int .i64 0, .int .i64 0, .int .i64 0, .int .i64 0, .bool false, .slice A4 120 c4, .slice none 0 0])]) := Lib.hid (H.out.frame #[.int .i64 3, .int .i64 1, .int .i64 0, .int .i64 0, .int .i64 0, .int .i64 0, .bool true, .slice A43 0 c43, .slice none 0 0])
      obtain ⟨gk, hgk⟩ : ∃ g, w44.heap.size = g := ⟨_, rfl⟩
      obtain ⟨w45, hw45⟩ : ∃ x, w44.alloc (.cells #[.int .i64 3, .int .i64 1, .int .i64 0, .int .i64 0, .int .i64 0, .int .i64 0, .bool true, .slice A43 0 c43, .slice none 0 0] 30) = x := ⟨_, rfl⟩
      rw [hw45, hgk] at H1 ⊢
      clear H hw45 hgk
      have H := H1
      clear H1
      obtain ⟨F, x, y, c, G, x2, y2, c2, hs, hz, hr⟩ := H.out
      have HC := Lib.hid (next_st hz ok20 9 0 (by decide))
      have HT := Lib.hid (fun w' (ht : StTo w45 w' q G q20) => Two.toZ hs hz hr ht)
      clear hs hr H hz
      go_wp2_with fail
      refine HC.out.mono ?_
      rintro e w46 hq
      obtain ⟨rfl, hst⟩ : e = .returned (.tuple #[.agg #[.int .i64 0, .int .i64 0, .int .i64 0, .int .i64 0, .int .i64 0, .int .i64 0, .bool false, .slice none 0 0, .slice none 0 0], .int .i64 0, .bool false]) ∧ StTo w45 w46 q G q20 := next_no hq e29
      have H := Lib.hid (HT.out _ hst)
      clear hq hst HC HT
      go_upto_region 37 with (fail)
      have H1 : Hid (Two w (w46.alloc (.cells #[.int .i64 0, .int .i64 0, .int .i64 0, .int .i64 0, .int .i64 0, .int .i64 0, .bool false, .slice none 0 0, .slice none 0 0] 30)) p q17 q q20 [(gk, #[.int .i64 3, .int .i64 1, .int .i64 0, .int .i64 0, .int .i64 0, .int .i64 0, .bool true, .slice A43 0 c43, .slice none 0 0]), (gj, #[.int .i64 4, .int .i64 4, .int .i64 450, .int .i64 7, .int .i64 100, .int .i64 0, .bool false, .slice none 0 0, .slice none 0 0]), (gi, #[.int .i64 4, .int .i64 4, .int .i64 450, .int .i64 7, .int .i64 100, .int .i64 0, .bool false, .slice none 0 0, .slice none 0 0]), (gf, #[.int .i64 4, .int .i64 4, .int .i64 450, .int .i64 7, .int .i64 450, .int .i64 0, .bool false, .slice none 0 0, .slice none 0 0]), (gx, #[.int .i64 3, .int .i64 4, .int .i64 400, .int .i64 0, .int .i64 0, .int .i64 0, .bool false, .slice A23 50 c23, .slice none 0 0]), (gd, #[.int .i64 3, .int .i64 4, .int .i64 0, .int .i64 0, .int .i64 0, .int .i64 0, .bool false, .slice A13 55 c13, .slice none 0 0]), (gc, #[.int .i64 3, .int .i64 4, .int .i64 150, .int .i64 0, .int .i64 0, .int .i64 0, .bool false, .slice A10 18 c10, .slice none 0 0]), (gb, #[.int .i64 3, .int .i64 4, .int .i64 120, .int .i64 0, .int .i64 0, .int .i64 0, .bool false, .slice A6 30 c6, .slice none 0 0]), (ga, #[.int .i64 3, .int .i64 4, .int .i64 0, .int .i64 0, .int .i64 0, .int .i64 0, .bool false, .slice A4 120 c4, .slice none 0 0])]) := Lib.hid (H.out.below ((Below.refl _ _).alloc (Nat.le_refl _) _))
      obtain ⟨w47, hw47⟩ : ∃ x, w46.alloc (.cells #[.int .i64 0, .int .i64 0, .int .i64 0, .int .i64 0, .int .i64 0, .int .i64 0, .bool false, .slice none 0 0, .slice none 0 0] 30) = x := ⟨_, rfl⟩
      rw [hw47] at H1 ⊢
      clear H hw47
      have H := H1
      clear H1
      have hg := H.out.get gk _ (.head _)
      have dgk0 := cell_slot (o := 0) hg rfl
      have dgk1 := cell_slot (o := 1) hg rfl
      have dgk2 := cell_slot (o := 2) hg rfl
      have dgk3 := cell_slot (o := 3) hg rfl
      have dgk4 := cell_slot (o := 4) hg rfl
      have dgk5 := cell_slot (o := 5) hg rfl
      have dgk6 := cell_slot (o := 6) hg rfl
      have dgk7 := cell_slot (o := 7) hg rfl
      have dgk8 := cell_slot (o := 8) hg rfl
      clear hg
      obtain ⟨F, x, y, c, G, x2, y2, c2, hs, hz, hr⟩ := H.out
      have HC := Lib.hid (lost_st hz ok20 3 1 0 0 0 0 true A43 0 c43 none 0 0 (by decide) (by decide))
      have HT := Lib.hid (fun w' (ht : StTo w47 w' q G q21) => Two.toZ hs hz hr ht)
      clear hs hr H hz
      go_wp2_with fail
      refine HC.out.mono ?_
      rintro e w48 hq
      obtain ⟨rfl, hst⟩ : e = .returned (.tuple #[]) ∧ StTo w47 w48 q G q21 := by rw [e30] at hq; exact hq
      have H := Lib.hid (HT.out _ hst)
      clear hq hst HC HT
      clear dgk0 dgk1 dgk2 dgk3 dgk4 dgk5 dgk6 dgk7 dgk8
      go_upto_region 38 with (fail)
      obtain ⟨F, x, y, c, G, x2, y2, c2, hs, hz, hr⟩ := H.out
      have HC := Lib.hid (next_st hz ok21 9 0 (by decide))
      have HT := Lib.hid (fun w' (ht : StTo w48 w' q G q20) => Two.toZ hs hz hr ht)
      clear hs hr H hz
      go_wp2_with fail
      refine HC.out.mono ?_
      rintro e w49 hq
      obtain ⟨A48, c48, rfl, hst⟩ : ∃ (A48 : Option Addr) (c48 : Nat), e = .returned (.tuple #[.agg #[.int .i64 3, .int .i64 1, .int .i64 0, .int .i64 0, .int .i64 0, .int .i64 0, .bool true, .slice A48 0 c48, .slice none 0 0], .int .i64 0, .bool true]) ∧ StTo w48 w49 q G q20 := next_yes (a := 0) (n := 0) hq e31
      have H := Lib.hid (HT.out _ hst)
      clear hq hst HC HT
      go_upto_region 39 with (fail)
      have H1 : Hid (Two w (w49.alloc (.cells #[.int .i64 3, .int .i64 1, .int .i64 0, .int .i64 0, .int .i64 0, .int .i64 0, .bool true, .slice A48 0 c48, .slice none 0 0] 30)) p q17 q q20 [(w49.heap.size, #[.int .i64 3, .int .i64 1, .int .i64 0, .int .i64 0, .int .i64 0, .int .i64 0, .bool true, .slice A48 0 c48, .slice none 0 0]), (gk, #[.int .i64 3, .int .i64 1, .int .i64 0, .int .i64 0, .int .i64 0, .int .i64 0, .bool true, .slice A43 0 c43, .slice none 0 0]), (gj, #[.int .i64 4, .int .i64 4, .int .i64 450, .int .i64 7, .int .i64 100, .int .i64 0, .bool false, .slice none 0 0, .slice none 0 0]), (gi, #[.int .i64 4, .int .i64 4, .int .i64 450, .int .i64 7, .int .i64 100, .int .i64 0, .bool false, .slice none 0 0, .slice none 0 0]), (gf, #[.int .i64 4, .int .i64 4, .int .i64 450, .int .i64 7, .int .i64 450, .int .i64 0, .bool false, .slice none 0 0, .slice none 0 0]), (gx, #[.int .i64 3, .int .i64 4, .int .i64 400, .int .i64 0, .int .i64 0, .int .i64 0, .bool false, .slice A23 50 c23, .slice none 0 0]), (gd, #[.int .i64 3, .int .i64 4, .int .i64 0, .int .i64 0, .int .i64 0, .int .i64 0, .bool false, .slice A13 55 c13, .slice none 0 0]), (gc, #[.int .i64 3, .int .i64 4, .int .i64 150, .int .i64 0, .int .i64 0, .int .i64 0, .bool false, .slice A10 18 c10, .slice none 0 0]), (gb, #[.int .i64 3, .int .i64 4, .int .i64 120, .int .i64 0, .int .i64 0, .int .i64 0, .bool false, .slice A6 30 c6, .slice none 0 0]), (ga, #[.int .i64 3, .int .i64 4, .int .i64 0, .int .i64 0, .int .i64 0, .int .i64 0, .bool false, .slice A4 120 c4, .slice none 0 0])]) := Lib.hid (H.out.frame #[.int .i64 3, .int .i64 1, .int .i64 0, .int .i64 0, .int .i64 0, .int .i64 0, .bool true, .slice A48 0 c48, .slice none 0 0])
      obtain ⟨gl, hgl⟩ : ∃ g, w49.heap.size = g := ⟨_, rfl⟩
      obtain ⟨w50, hw50⟩ : ∃ x, w49.alloc (.cells #[.int .i64 3, .int .i64 1, .int .i64 0, .int .i64 0, .int .i64 0, .int .i64 0, .bool true, .slice A48 0 c48, .slice none 0 0] 30) = x := ⟨_, rfl⟩
      rw [hw50, hgl] at H1 ⊢
      clear H hw50 hgl
      have H := H1
      clear H1
      have hg := H.out.get gl _ (.head _)
      have dgl0 := cell_slot (o := 0) hg rfl
      have dgl1 := cell_slot (o := 1) hg rfl
      have dgl2 := cell_slot (o := 2) hg rfl
      have dgl3 := cell_slot (o := 3) hg rfl
      have dgl4 := cell_slot (o := 4) hg rfl
      have dgl5 := cell_slot (o := 5) hg rfl
      have dgl6 := cell_slot (o := 6) hg rfl
      have dgl7 := cell_slot (o := 7) hg rfl
      have dgl8 := cell_slot (o := 8) hg rfl
      clear hg
      obtain ⟨F, x, y, c, G, x2, y2, c2, hs, hz, hr⟩ := H.out
      have HC := Lib.hid (acked_st hz ok20 3 1 0 0 0 0 true A48 0 c48 none 0 0 (by decide) (by decide))
      have HT := Lib.hid (fun w' (ht : StTo w50 w' q G q22) => Two.toZ hs hz hr ht)
      clear hs hr H hz
      go_wp2_with fail
      refine HC.out.mono ?_
      rintro e w51 hq
      obtain ⟨rfl, hst⟩ : e = .returned (.tuple #[]) ∧ StTo w50 w51 q G q22 := by rw [e32] at hq; exact hq
      have H := Lib.hid (HT.out _ hst)
      clear hq hst HC HT
      clear dgl0 dgl1 dgl2 dgl3 dgl4 dgl5 dgl6 dgl7 dgl8
      go_upto_region 40 with (fail)
      as_aux_lemma =>
        simp only [List.append_eq, List.cons_append, List.nil_append]
        refine Ls.wp_region_two 125 (by kernel_rfl) (Nat.le_of_ble_eq_true (by kernel_rfl)) (by kernel_rfl) ?_
        simp only [Ls.swp, List.take_succ_cons, List.take_zero, List.drop_succ_cons, List.drop_zero]
        have H1 : Hid (Two w w51.drew p q17 q q22 [(gl, #[.int .i64 3, .int .i64 1, .int .i64 0, .int .i64 0, .int .i64 0, .int .i64 0, .bool true, .slice A48 0 c48, .slice none 0 0]), (gk, #[.int .i64 3, .int .i64 1, .int .i64 0, .int .i64 0, .int .i64 0, .int .i64 0, .bool true, .slice A43 0 c43, .slice none 0 0]), (gj, #[.int .i64 4, .int .i64 4, .int .i64 450, .int .i64 7, .int .i64 100, .int .i64 0, .bool false, .slice none 0 0, .slice none 0 0]), (gi, #[.int .i64 4, .int .i64 4, .int .i64 450, .int .i64 7, .int .i64 100, .int .i64 0, .bool false, .slice none 0 0, .slice none 0 0]), (gf, #[.int .i64 4, .int .i64 4, .int .i64 450, .int .i64 7, .int .i64 450, .int .i64 0, .bool false, .slice none 0 0, .slice none 0 0]), (gx, #[.int .i64 3, .int .i64 4, .int .i64 400, .int .i64 0, .int .i64 0, .int .i64 0, .bool false, .slice A23 50 c23, .slice none 0 0]), (gd, #[.int .i64 3, .int .i64 4, .int .i64 0, .int .i64 0, .int .i64 0, .int .i64 0, .bool false, .slice A13 55 c13, .slice none 0 0]), (gc, #[.int .i64 3, .int .i64 4, .int .i64 150, .int .i64 0, .int .i64 0, .int .i64 0, .bool false, .slice A10 18 c10, .slice none 0 0]), (gb, #[.int .i64 3, .int .i64 4, .int .i64 120, .int .i64 0, .int .i64 0, .int .i64 0, .bool false, .slice A6 30 c6, .slice none 0 0]), (ga, #[.int .i64 3, .int .i64 4, .int .i64 0, .int .i64 0, .int .i64 0, .int .i64 0, .bool false, .slice A4 120 c4, .slice none 0 0])]) := Lib.hid (H.out.below (Below.refl _ _).drew)
        obtain ⟨w52, hw⟩ : ∃ x, w51.drew = x := ⟨_, rfl⟩
        rw [hw] at H1 ⊢
        clear hw H
        have H := H1
        clear H1
        have hg := H.out.get gx _ (.tail _ (.tail _ (.tail _ (.tail _ (.tail _ (.head _))))))
        have dgx7 := cell_slot (o := 7) hg rfl
        clear hg
        have hg := H.out.get gf _ (.tail _ (.tail _ (.tail _ (.tail _ (.head _)))))
        have dgf2 := cell_slot (o := 2) hg rfl
        have dgf3 := cell_slot (o := 3) hg rfl
        have dgf4 := cell_slot (o := 4) hg rfl
        clear hg
        have hg := H.out.get gi _ (.tail _ (.tail _ (.tail _ (.head _))))
        have dgi2 := cell_slot (o := 2) hg rfl
        have dgi3 := cell_slot (o := 3) hg rfl
        have dgi4 := cell_slot (o := 4) hg rfl
        clear hg
        have hg := H.out.get gj _ (.tail _ (.tail _ (.head _)))
        have dgj4 := cell_slot (o := 4) hg rfl
        clear hg
        obtain ⟨F, x, y, c, G, x2, y2, c2, hs, hz, hr⟩ := H.out
        have HC := Lib.hid (write_st hs (by decide) [] 0 none 0 (Rd.nil _ _ _) (by decide))
        have HT := Lib.hid (fun w' (ht : StTo w52 w' p F q17) => Two.toS hs hz hr ht)
        clear hs hr H hz
        go_wp2_with fail
        refine HC.out.mono ?_
        rintro e w53 hq
        obtain ⟨rfl, hst⟩ : e = .returned (.int .i64 6) ∧ StTo w52 w53 p F q17 := by rw [e33] at hq; exact hq
        have H := Lib.hid (HT.out _ hst)
        clear hq hst HC HT
        clear dgx7 dgf2 dgf3 dgf4 dgi2 dgi3 dgi4 dgj4
        obtain ⟨F, x, y, c, G, x2, y2, c2, hs, hz, hr⟩ := H.out
        have HC := Lib.hid (reset_st hs (by decide) 1 0)
        have HT := Lib.hid (fun w' (ht : StTo w53 w' p F q17) => Two.toS hs hz hr ht)
        clear hs hr H hz
        go_wp2_with fail
        refine HC.out.mono ?_
        rintro e w54 hq
        obtain ⟨rfl, hst⟩ : e = .returned (.int .i64 6) ∧ StTo w53 w54 p F q17 := by rw [e34] at hq; exact hq
        have H := Lib.hid (HT.out _ hst)
        clear hq hst HC HT
        have hg := H.out.get gk _ (.tail _ (.head _))
        have dgk2 := cell_slot (o := 2) hg rfl
        have dgk6 := cell_slot (o := 6) hg rfl
        have dgk7 := cell_slot (o := 7) hg rfl
        clear hg
        obtain ⟨F, x, y, c, G, x2, y2, c2, hs, hz, hr⟩ := H.out
        have HC := Lib.hid (done_st hz (by decide))
        clear hs hr hz
        go_wp2_with fail
        refine HC.out.mono ?_
        rintro e w55 ⟨rfl, qn, hwq⟩
        rw [e35]
        have H1 : Hid (Two w w55 p q17 q q22 [(gl, #[.int .i64 3, .int .i64 1, .int .i64 0, .int .i64 0, .int .i64 0, .int .i64 0, .bool true, .slice A48 0 c48, .slice none 0 0]), (gk, #[.int .i64 3, .int .i64 1, .int .i64 0, .int .i64 0, .int .i64 0, .int .i64 0, .bool true, .slice A43 0 c43, .slice none 0 0]), (gj, #[.int .i64 4, .int .i64 4, .int .i64 450, .int .i64 7, .int .i64 100, .int .i64 0, .bool false, .slice none 0 0, .slice none 0 0]), (gi, #[.int .i64 4, .int .i64 4, .int .i64 450, .int .i64 7, .int .i64 100, .int .i64 0, .bool false, .slice none 0 0, .slice none 0 0]), (gf, #[.int .i64 4, .int .i64 4, .int .i64 450, .int .i64 7, .int .i64 450, .int .i64 0, .bool false, .slice none 0 0, .slice none 0 0]), (gx, #[.int .i64 3, .int .i64 4, .int .i64 400, .int .i64 0, .int .i64 0, .int .i64 0, .bool false, .slice A23 50 c23, .slice none 0 0]), (gd, #[.int .i64 3, .int .i64 4, .int .i64 0, .int .i64 0, .int .i64 0, .int .i64 0, .bool false, .slice A13 55 c13, .slice none 0 0]), (gc, #[.int .i64 3, .int .i64 4, .int .i64 150, .int .i64 0, .int .i64 0, .int .i64 0, .bool false, .slice A10 18 c10, .slice none 0 0]), (gb, #[.int .i64 3, .int .i64 4, .int .i64 120, .int .i64 0, .int .i64 0, .int .i64 0, .bool false, .slice A6 30 c6, .slice none 0 0]), (ga, #[.int .i64 3, .int .i64 4, .int .i64 0, .int .i64 0, .int .i64 0, .int .i64 0, .bool false, .slice A4 120 c4, .slice none 0 0])]) := Lib.hid (H.out.below (by rw [hwq]; exact below_dm (Below.refl _ _) qn))
        clear H
        have H := H1
        clear H1 HC hwq qn
        clear dgk2 dgk6 dgk7
        obtain ⟨F, x, y, c, G, x2, y2, c2, hs, hz, hr⟩ := H.out
        have HC := Lib.hid (finish_st hz)
        have HT := Lib.hid (fun w' (ht : StTo w55 w' q G q22) => Two.toZ hs hz hr ht)
        clear hs hr H hz
        go_wp2_with fail
        refine HC.out.mono ?_
        rintro e w56 hq
        obtain ⟨rfl, hst⟩ : e = .returned (.int .i64 6) ∧ StTo w55 w56 q G q22 := by rw [e36] at hq; exact hq
        have H := Lib.hid (HT.out _ hst)
        clear hq hst HC HT
        have HB : Hid (Below w.heap.size w w56) := H.out.bel
        clear H
        go_wp2_with fail
        refine ⟨?_, ?_⟩
        · skip
          as_aux_lemma =>
            go_wp2_with fail
            refine (HNEW0.out w56).mono ?_
            rintro e w57 ⟨na, F1, x1, y1, c1, rfl, hs1, hF1, hb1⟩
            have H : Hid (One w w57 na q23 []) := One.new HB.out hs1 hF1 hb1
            clear hs1 hF1 hb1 HB
            go_wp2_with fail
            have H1 : Hid (One w (w57.alloc (.cells zc4001 5)) na q23 []) := Lib.hid (H.out.below ((Below.refl _ _).alloc (Nat.le_refl _) (.cells zc4001 5)))
            have HR := Lib.hid (rd_new w57 zc4001 5 w57.heap.size (w57.alloc (.cells zc4001 5)).heap.size 4001 _ rfl (by simp) hzs4001.out hmz4001.out)
            obtain ⟨w58, hw⟩ : ∃ x, w57.alloc (.cells zc4001 5) = x := ⟨_, rfl⟩
            obtain ⟨gm57, hgm⟩ : ∃ g, w57.heap.size = g := ⟨_, rfl⟩
            rw [hw] at H1 HR ⊢
            rw [hgm] at HR ⊢
            clear hw hgm H
            have H := H1
            clear H1
            obtain ⟨F, x, y, c, hs, hr⟩ := H.out
            have HC := Lib.hid (write_st hs (by decide) (List.replicate 4001 0) _ (some ⟨gm57, 0, none⟩) 4001 HR.out (by decide))
            have HT := Lib.hid (fun w' (ht : StTo w58 w' na F q23) => One.to hs hr ht)
            clear hs hr H HR
            go_wp2_with fail
            refine HC.out.mono ?_
            rintro e w59 hq
            obtain ⟨rfl, hst⟩ : e = .returned (.int .i64 9) ∧ StTo w58 w59 na F q23 := by rw [e37] at hq; exact hq
            have H := Lib.hid (HT.out _ hst)
            clear hq hst HC HT
            have HB : Hid (Below w.heap.size w w59) := H.out.bel
            clear H
            go_wp2_with fail
            refine (HNEW0.out w59).mono ?_
            rintro e w60 ⟨n00, F1, x1, y1, c1, rfl, hs1, hF1, hb1⟩
            have H : Hid (One w w60 n00 q23 []) := One.new HB.out hs1 hF1 hb1
            clear hs1 hF1 hb1 HB
            obtain ⟨F, x, y, c, hs, hr⟩ := H.out
            have HC := Lib.hid (reset_st hs (by decide) (-1) 0)
            have HT := Lib.hid (fun w' (ht : StTo w60 w' n00 F q23) => One.to hs hr ht)
            clear hs hr H
            go_wp2_with fail
            refine HC.out.mono ?_
            rintro e w61 hq
            obtain ⟨rfl, hst⟩ : e = .returned (.int .i64 1) ∧ StTo w60 w61 n00 F q23 := by rw [e38] at hq; exact hq
            have H := Lib.hid (HT.out _ hst)
            clear hq hst HC HT
            have HB : Hid (Below w.heap.size w w61) := H.out.bel
            clear H
            go_wp2_with fail
            refine (HNEW0.out w61).mono ?_
            rintro e w62 ⟨n01, F1, x1, y1, c1, rfl, hs1, hF1, hb1⟩
            have H : Hid (One w w62 n01 q23 []) := One.new HB.out hs1 hF1 hb1
            clear hs1 hF1 hb1 HB
            obtain ⟨F, x, y, c, hs, hr⟩ := H.out
            have HC := Lib.hid (reset_st hs (by decide) (0) 1)
            have HT := Lib.hid (fun w' (ht : StTo w62 w' n01 F q23) => One.to hs hr ht)
            clear hs hr H
            go_wp2_with fail
            refine HC.out.mono ?_
            rintro e w63 hq
            obtain ⟨rfl, hst⟩ : e = .returned (.int .i64 1) ∧ StTo w62 w63 n01 F q23 := by rw [e39] at hq; exact hq
            have H := Lib.hid (HT.out _ hst)
            clear hq hst HC HT
            have HB : Hid (Below w.heap.size w w63) := H.out.bel
            clear H
            go_wp2_with fail
            go_ret
            exact ⟨rfl, HB.out⟩
        · skip
          as_aux_lemma =>
            go_wp2_with fail
            have HB1 : Hid (Below w.heap.size w (w56.alloc (.cells zc4001 5))) := Lib.hid (HB.out.trans ((Below.refl _ _).alloc HB.out.size _))
            have HR := Lib.hid (rd_new w56 zc4001 5 w56.heap.size (w56.alloc (.cells zc4001 5)).heap.size 4001 _ rfl (by simp) hzs4001.out hmz4001.out)
            obtain ⟨w57, hw⟩ : ∃ x, w56.alloc (.cells zc4001 5) = x := ⟨_, rfl⟩
            obtain ⟨gmz, hgm⟩ : ∃ g, w56.heap.size = g := ⟨_, rfl⟩
            rw [hw] at HB1 HR ⊢
            rw [hgm] at HR ⊢
            clear hw hgm HB
            have HB := HB1
            clear HB1
            go_wp2_with fail
            refine (HNEW0.out w57).mono ?_
            rintro e w58 ⟨nb, F1, x1, y1, c1, rfl, hs1, hF1, hb1⟩
            have H : Hid (One w w58 nb q23 []) := One.new HB.out hs1 hF1 hb1
            have HR1 := Lib.hid (HR.out.below hb1 (Nat.le_refl _))
            clear hs1 hF1 hb1 HB HR
            have HR := HR1
            clear HR1
            obtain ⟨F, x, y, c, hs, hr⟩ := H.out
            have HC := Lib.hid (write_st hs (by decide) (List.replicate 4001 0) _ (some ⟨gmz, 0, none⟩) 4001 HR.out (by decide))
            have HT := Lib.hid (fun w' (ht : StTo w58 w' nb F q23) => One.to hs hr ht)
            clear hs hr H HR
            go_wp2_with fail
            refine HC.out.mono ?_
            rintro e w59 hq
            obtain ⟨rfl, hst⟩ : e = .returned (.int .i64 9) ∧ StTo w58 w59 nb F q23 := by rw [e37] at hq; exact hq
            have H := Lib.hid (HT.out _ hst)
            clear hq hst HC HT
            have HB : Hid (Below w.heap.size w w59) := H.out.bel
            clear H
            go_wp2_with fail
            refine (HNEW0.out w59).mono ?_
            rintro e w60 ⟨n10, F1, x1, y1, c1, rfl, hs1, hF1, hb1⟩
            have H : Hid (One w w60 n10 q23 []) := One.new HB.out hs1 hF1 hb1
            clear hs1 hF1 hb1 HB
            obtain ⟨F, x, y, c, hs, hr⟩ := H.out
            have HC := Lib.hid (reset_st hs (by decide) (-1) 0)
            have HT := Lib.hid (fun w' (ht : StTo w60 w' n10 F q23) => One.to hs hr ht)
            clear hs hr H
            go_wp2_with fail
            refine HC.out.mono ?_
            rintro e w61 hq
            obtain ⟨rfl, hst⟩ : e = .returned (.int .i64 1) ∧ StTo w60 w61 n10 F q23 := by rw [e38] at hq; exact hq
            have H := Lib.hid (HT.out _ hst)
            clear hq hst HC HT
            have HB : Hid (Below w.heap.size w w61) := H.out.bel
            clear H
            go_wp2_with fail
            refine (HNEW0.out w61).mono ?_
            rintro e w62 ⟨n11, F1, x1, y1, c1, rfl, hs1, hF1, hb1⟩
            have H : Hid (One w w62 n11 q23 []) := One.new HB.out hs1 hF1 hb1
            clear hs1 hF1 hb1 HB
            obtain ⟨F, x, y, c, hs, hr⟩ := H.out
            have HC := Lib.hid (reset_st hs (by decide) (0) 1)
            have HT := Lib.hid (fun w' (ht : StTo w62 w' n11 F q23) => One.to hs hr ht)
            clear hs hr H
            go_wp2_with fail
            refine HC.out.mono ?_
            rintro e w63 hq
            obtain ⟨rfl, hst⟩ : e = .returned (.int .i64 1) ∧ StTo w62 w63 n11 F q23 := by rw [e39] at hq; exact hq
            have H := Lib.hid (HT.out _ hst)
            clear hq hst HC HT
            have HB : Hid (Below w.heap.size w w63) := H.out.bel
            clear H
            go_wp2_with fail
            go_ret
            exact ⟨rfl, HB.out⟩
end Go.Proofs.Ytppbhjjkccogkaa.SnK
