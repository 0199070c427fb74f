/- PathSpread: the walk. Conditions: the frames' row is an argument's. -/
import Derived.Test.YtebfjphmlggacaaJVa
set_option linter.unusedSimpArgs false
set_option linter.unusedVariables false

namespace Go.Proofs.Ytebfjphmlggacaa.Pv
open Go Go.RowKit Go.Proofs.Ytebfjphmlggacaa Go.Proofs.Ytebfjphmlggacaa.Sp Go.Proofs.Ytebfjphmlggacaa.Ld
open Go.Proofs.Ytebfjphmlggacaa.Pa (allF_app selK selK_map selK_mem PathIn FrRow lastN badL heardS probeF lateS inRs elicF)
open Go.Proofs.Ytebfjphmlggacaa.Sq (TwinQ PlQ)

theorem fqok_of {w : World} {lo : Nat} {q : Fq} (h : FqOwn w lo q) (hp : PlQ q) (hd : q.dn ≤ 1099511627776) : FqOk w q := by
  obtain ⟨_, _, e1, _, _, _, r1⟩ := own_form h.1
  obtain ⟨_, _, e2, _, _, _, r2⟩ := own_form h.2
  simp only [Value.slice.injEq, true_and] at e1 e2
  rw [← e1.1, Nat.mul_one] at r1
  rw [← e2.1] at r2
  refine ⟨r1, fun u hu => ?_, hd, r2, fun u hu => ?_, by have := hp.2.2; omega⟩
  · rw [hp.1] at hu
    obtain ⟨b, _, rfl⟩ := List.mem_map.1 hu
    rfl
  · rw [hp.2.1] at hu
    obtain ⟨b, _, rfl⟩ := List.mem_map.1 hu
    rfl
theorem raw_keep {W W' : World} {r : Rw} (h : RawOk W r) (hb : Below W.heap.size W W') : RawOk W' r :=
  ⟨h.id, h.off, h.a, h.b, (h.bs.below hb (Nat.le_refl _)).more hb.size, h.bc, h.bm, h.blt, (h.l.below hb (Nat.le_refl _)).more hb.size, h.lc, h.lm, h.llt⟩
theorem raws_keep {W W' : World} {A : Option Addr} {cap n : Nat} {rs : List Rw} (h : IsRaws W A cap n rs) (hb : Below W.heap.size W W') : IsRaws W' A cap n rs :=
  ⟨h.len, h.cap, h.big, fun h0 => by
    obtain ⟨b, off, e, hl, hc⟩ := h.rd h0
    exact ⟨b, off, e, Nat.lt_of_lt_of_le hl hb.size, fun k r hk => ⟨raw_keep (hc k r hk).1 hb, fun j u hu => (hb.cell (p := ⟨b, off + k * 9 + j, none⟩) hl).trans ((hc k r hk).2 j u hu)⟩⟩⟩
/-- A row that begins behind block g stays where g is written. -/
theorem own_late {w w' : World} {base e size n g : Nat} {v : Value} {xs : List Value} (h : w.ownsRow base e size v n xs) (hg : w.grownBy w' (some g)) (hb : g < base) : w'.ownsRow base e size v n xs :=
  h.kept hg (by
    by_cases hn : v.ownBlock = none
    · exact .inl hn
    · refine .inr fun e' => ?_
      have := (h.lt g e').1
      omega)
theorem FrRow.late {w w' : World} {base g : Nat} {k : Pk} {qs : List Fq} (h : FrRow w base k qs) (hg : w.grownBy w' (some g)) (hb : g < base) : FrRow w' base k qs :=
  ⟨h.len, h.le, h.at64, own_late h.own hg hb, fun q hq => ⟨own_late (h.each q hq).1 hg hb, own_late (h.each q hq).2 hg hb⟩⟩
/-- The path stays where an older row of frames is written. -/
theorem path_set {w w' : World} {lo p g B : Nat} {s : Rtt.RS} {kq : List (Pk × List Fq)} {next behind : Nat} {wd : Cg.Win} {cu : Array Value} (h : PathIn w lo p s kq next behind wd) (hg : w.grownBy w' (some g)) (hc : w.heap[g]? = some (.cells cu 28 (0, 0))) (hr : ∀ x ∈ kq, FrRow w B x.1 x.2) (hB : lo ≤ B) (hb : g < B) : PathIn w' lo p s kq next behind wd := by
  obtain ⟨cur, h1, h2, h3⟩ := h.cur
  have hcells : ∀ (i : Nat) (cs : Array Value) (t : TypeId) (fr : Nat × Nat), w.heap[i]? = some (.cells cs t fr) → t ≠ 28 → w'.heap[i]? = w.heap[i]? := fun i cs t fr hi ht => hg.block i (lt_of_block hi) fun e => by
    simp only [Option.some.injEq] at e
    subst e
    rw [hc] at hi
    simp only [Option.some.injEq, Obj.cells.injEq] at hi
    exact ht hi.2.1.symm
  have e := hcells p _ _ _ h1.1 (by decide)
  refine ⟨⟨cur, ⟨e.trans h1.1, h1.2⟩, ?_, ⟨e.trans h3.hp, h3.c0, h3.c1, h3.c2, h3.c3⟩⟩, h.good, h.ok, fun x hx => Pa.FrRow.base (FrRow.late (hr x hx) hg hb) hB⟩
  obtain ⟨os, a1, a2⟩ := h2.led
  obtain ⟨A, c, e1, hrow⟩ := a1.row
  exact ⟨os, ⟨a1.hlo, Nat.lt_of_lt_of_le a1.hhi hg.size, Nat.le_refl _, a1.hT, e.trans a1.hp, ⟨A, c, e1, hrow.mono hg.size fun i hi ⟨cs, t, ht, hcs⟩ => hcells i cs t _ hcs (by rcases ht with rfl | rfl <;> decide)⟩, a1.c1, a1.c2, a1.c3, a1.len, a1.nums, a1.beh⟩, a2⟩
/-- The notes are laid, j of them. -/
structure NoteI (w wr : World) (p base : Nat) (A : Option Addr) (n c : Nat) (qs : List Fq) (j : Nat) : Prop where
  path : PathIn wr w.heap.size p Rtt.r0 [] 0 0 ⟨4, 32, 0, 0⟩
  row : wr.ownsRow base 28 9 (.slice A n c) n (fqs (noted j qs))
  each : ∀ q ∈ qs, FqOwn wr 0 q ∧ PlQ q ∧ q.dn ≤ 1099511627776
  below : Below w.heap.size w wr
  base : w.heap.size ≤ base
theorem NoteI.put {w wr : World} {p base n c j g : Nat} {qs : List Fq} {q : Fq} (h : NoteI w wr p base (some ⟨g, 0, none⟩) n c qs j) (hq : qs[j]? = some q) : NoteI w (wr.setCell ⟨g, j * 9 + 5, none⟩ (.int .i64 (100 + (j : Int)))) p base (some ⟨g, 0, none⟩) n c qs (j + 1) := by
  have hg : wr.grownBy (wr.setCell ⟨g, j * 9 + 5, none⟩ (.int .i64 (100 + (j : Int)))) (some g) := ⟨rfl, rfl, rfl, by simp [World.setCell], fun k hk hne => Below.heap_setCell _ _ _ _ (fun e => hne (by rw [e]))⟩
  obtain ⟨cu, hc⟩ : ∃ cu, wr.heap[g]? = some (.cells cu 28 (0, 0)) := by
    rcases h.row.2 with ⟨e, _⟩ | ⟨g', cap, cu, e, _, hh, _⟩
    · simp at e
    · simp only [Value.slice.injEq, Option.some.injEq, Addr.mk.injEq] at e
      obtain ⟨⟨rfl, _⟩, _⟩ := e
      exact ⟨cu, hh⟩
  have hlt := h.row.lt g rfl
  have hset := h.row.stored (j * 9 + 5) (.int .i64 (100 + (j : Int)))
  rw [fqs_note (noted j qs) j q _ (by rw [noted_get _ _ _ _ hq, if_neg (by omega)]), ← noted_succ j qs q hq] at hset
  exact ⟨path_set h.path hg hc (B := wr.heap.size) (fun x hx => by cases hx) (by have := h.below.size; omega) hlt.2, hset.1, fun q' hq' => ⟨⟨Pa.own_other (h.each q' hq').1.1 hg hc (by decide), Pa.own_other (h.each q' hq').1.2 hg hc (by decide)⟩, (h.each q' hq').2⟩, h.below.setCell (by have := h.base; show _ ≤ g; omega) _, h.base⟩

/-- Behind the copies: the path, its packets' rows behind gz, the wanted row, the row that was spread. -/
structure SprI (w W : World) (p gz : Nat) (A6 : Option Addr) (n6 c6 : Nat) (AW : Option Addr) (cW : Nat) (fs : List Fq) (kq : List (Pk × List Fq)) (next : Nat) : Prop where
  path : PathIn W w.heap.size p Rtt.r0 kq next 0 ⟨4, 32, 0, 0⟩
  want : W.ownsRow gz 28 9 (.slice AW n6 cW) n6 (fqs fs)
  row : W.ownsRow w.heap.size 28 9 (.slice A6 n6 c6) n6 (fqs fs)
  rows : ∀ x ∈ kq, FrRow W gz x.1 x.2
  each : ∀ q ∈ fs, FqOwn W 0 q ∧ PlQ q ∧ q.dn ≤ 1099511627776
  below : Below w.heap.size w W
  lo : w.heap.size ≤ gz
  hi : gz ≤ W.heap.size
  len : fs.length = n6
section
variable {w W w' : World} {p gz n6 c6 cW next : Nat} {A6 AW : Option Addr} {fs : List Fq} {kq : List (Pk × List Fq)}
theorem SprI.sent (h : SprI w W p gz A6 n6 c6 AW cW fs kq next) {qs : List Fq} (hs : SendP2 W w.heap.size p Rtt.r0 kq next 0 ⟨4, 32, 0, 0⟩ 0 qs w') : ∃ k' qs', k'.num = next ∧ k'.at' = 0 ∧ k'.el = elicF qs ∧ TwinQ qs qs' ∧ SprI w w' p gz A6 n6 c6 AW cW fs (kq ++ [(k', qs')]) (next + 1) := by
  obtain ⟨k1, qs1, a1, a2, a3, a4, a5, a6, a7, a8⟩ := hs
  obtain ⟨cu, h1, _⟩ := h.path.cur
  refine ⟨k1, qs1, a1, a2, a3, Sq.TwinQ.of a4.symm a5, a6, Pa.own_moved h.want a7 h1.1 (by decide) (by decide), Pa.own_moved h.row a7 h1.1 (by decide) (by decide), fun x hx => ?_, fun q hq => ⟨⟨Pa.own_moved (h.each q hq).1.1 a7 h1.1 (by decide) (by decide), Pa.own_moved (h.each q hq).1.2 a7 h1.1 (by decide) (by decide)⟩, (h.each q hq).2⟩, h.below.trans a7.below, h.lo, Nat.le_trans h.hi a7.below.size, h.len⟩
  rcases List.mem_append.1 hx with hx | hx
  · exact Pa.FrRow.moved (h.rows x hx) a7 h1.1 (by decide) (by decide) (by decide)
  · obtain rfl := List.mem_singleton.1 hx
    exact Pa.FrRow.base a8 h.hi
theorem SprI.rd (h : SprI w W p gz A6 n6 c6 AW cW fs kq next) (k : Nat) (hk : k ≤ n6) : Rd W W.heap.size A6 (k * 9) (fqs (fs.take k)) ∧ n6 ≤ c6 := by
  obtain ⟨_, _, e, hc, _, _, hr⟩ := own_form h.row
  simp only [Value.slice.injEq, true_and] at e
  obtain ⟨rfl, rfl⟩ := e
  refine ⟨⟨by rw [fqs_len, List.length_take, h.len]; omega, fun h0 => ?_⟩, hc⟩
  obtain ⟨b, off, rfl, hb, hcs⟩ := hr.2 (by omega)
  refine ⟨b, off, rfl, hb, fun j u hu => hcs j u ?_⟩
  have e2 : fqs fs = fqs (fs.take k) ++ fqs (fs.drop k) := by
    rw [← Pa.fqs_app, List.take_append_drop]
  rw [e2, List.getElem?_append_left (List.getElem?_eq_some_iff.1 hu).1]
  exact hu
theorem SprI.rd2 (h : SprI w W p gz A6 n6 c6 AW cW fs kq next) (k : Nat) (hk : k ≤ n6) (A : Option Addr) (hA : k < n6 → ∀ b off, A6 = some ⟨b, off, none⟩ → A = some ⟨b, off + k * 9, none⟩) : Rd W W.heap.size A ((n6 - k) * 9) (fqs (fs.drop k)) := by
  obtain ⟨_, _, e, hc, _, _, hr⟩ := own_form h.row
  simp only [Value.slice.injEq, true_and] at e
  obtain ⟨rfl, rfl⟩ := e
  refine ⟨by rw [fqs_len, List.length_drop, h.len], fun h0 => ?_⟩
  obtain ⟨b, off, rfl, hb, hcs⟩ := hr.2 (by omega)
  refine ⟨b, off + k * 9, hA (by omega) b off rfl, hb, fun j u hu => ?_⟩
  rw [Nat.add_assoc]
  refine hcs (k * 9 + j) u ?_
  have e2 : fqs fs = fqs (fs.take k) ++ fqs (fs.drop k) := by
    rw [← Pa.fqs_app, List.take_append_drop]
  have e3 : (fqs (fs.take k)).length = k * 9 := by rw [fqs_len, List.length_take, h.len, Nat.min_eq_left hk]
  rw [e2, List.getElem?_append_right (by omega), e3, Nat.add_sub_cancel_left]
  exact hu
theorem SprI.ok (h : SprI w W p gz A6 n6 c6 AW cW fs kq next) : ∀ q ∈ fs, FqOk W q := fun q hq => fqok_of (h.each q hq).1 (h.each q hq).2.1 (h.each q hq).2.2
end

/-- Behind the Sends: as SprI, whatever lies in the row that was spread. -/
structure ZeroI (w W : World) (p gz : Nat) (A6 : Option Addr) (n6 c6 : Nat) (AW : Option Addr) (cW : Nat) (fs : List Fq) (kq : List (Pk × List Fq)) : Prop where
  path : PathIn W w.heap.size p Rtt.r0 kq 3 0 ⟨4, 32, 0, 0⟩
  want : W.ownsRow gz 28 9 (.slice AW n6 cW) n6 (fqs fs)
  row : ∃ xs, W.ownsRow w.heap.size 28 9 (.slice A6 n6 c6) n6 xs
  rows : ∀ x ∈ kq, FrRow W gz x.1 x.2
  each : ∀ q ∈ fs, FqOwn W 0 q ∧ PlQ q ∧ q.dn ≤ 1099511627776
  below : Below w.heap.size w W
  lo : w.heap.size ≤ gz
  hi : gz ≤ W.heap.size
  len : fs.length = n6
  lt : ∀ a, A6 = some a → a.block < gz ∧ a.off = 0 ∧ a.spot = none
theorem ZeroI.blk {w W : World} {p gz n6 c6 cW : Nat} {A6 AW : Option Addr} {fs : List Fq} {kq : List (Pk × List Fq)} (h : ZeroI w W p gz A6 n6 c6 AW cW fs kq) (h0 : 0 < n6) : ∃ g xs, A6 = some ⟨g, 0, none⟩ ∧ W.ownsRow w.heap.size 28 9 (.slice A6 n6 c6) n6 xs := by
  obtain ⟨xs, hr⟩ := h.row
  rcases hr.2 with ⟨e, h0⟩ | ⟨g', cap, cu, e, _⟩
  · simp only [Value.slice.injEq] at e
    omega
  · simp only [Value.slice.injEq] at e
    exact ⟨g', xs, e.1, hr⟩

theorem ZeroI.put {w W : World} {p gz n6 c6 cW g : Nat} {AW : Option Addr} {fs : List Fq} {kq : List (Pk × List Fq)} (h : ZeroI w W p gz (some ⟨g, 0, none⟩) n6 c6 AW cW fs kq) (t : Nat) (v : Value) : ZeroI w (W.setCell ⟨g, t, none⟩ v) p gz (some ⟨g, 0, none⟩) n6 c6 AW cW fs kq := by
  have hg : W.grownBy (W.setCell ⟨g, t, none⟩ v) (some g) := ⟨rfl, rfl, rfl, by simp [World.setCell], fun k hk hne => Below.heap_setCell _ _ _ _ (fun e => hne (by rw [e]))⟩
  obtain ⟨xs, hr⟩ := h.row
  obtain ⟨cu, hc⟩ : ∃ cu, W.heap[g]? = some (.cells cu 28 (0, 0)) := by
    rcases hr.2 with ⟨e, _⟩ | ⟨g', cap, cu, e, _, hh, _⟩
    · simp at e
    · simp only [Value.slice.injEq, Option.some.injEq, Addr.mk.injEq] at e
      obtain ⟨⟨rfl, _⟩, _⟩ := e
      exact ⟨cu, hh⟩
  have hlt := hr.lt g rfl
  have hgz : g < gz := (h.lt _ rfl).1
  exact ⟨path_set h.path hg hc h.rows h.lo hgz, own_late h.want hg hgz, ⟨_, (hr.stored t v).1⟩, fun x hx => FrRow.late (h.rows x hx) hg hgz, fun q hq => ⟨⟨Pa.own_other (h.each q hq).1.1 hg hc (by decide), Pa.own_other (h.each q hq).1.2 hg hc (by decide)⟩, (h.each q hq).2⟩, h.below.setCell hlt.1 _, h.lo, Nat.le_trans h.hi hg.size, h.len, h.lt⟩
theorem ZeroI.keep {w W W' : World} {p gz n6 c6 cW : Nat} {A6 AW : Option Addr} {fs : List Fq} {kq : List (Pk × List Fq)} (h : ZeroI w W p gz A6 n6 c6 AW cW fs kq) (hb : Below W.heap.size W W') : ZeroI w W' p gz A6 n6 c6 AW cW fs kq := by
  obtain ⟨xs, hr⟩ := h.row
  exact ⟨h.path.keep hb, own_below h.want hb, ⟨xs, own_below hr hb⟩, fun x hx => Pa.FrRow.keep (h.rows x hx) hb, fun q hq => ⟨(h.each q hq).1.keep hb, (h.each q hq).2⟩, h.below.trans (hb.mono h.below.size), h.lo, Nat.le_trans h.hi hb.size, h.len, h.lt⟩

/-- What is told is held against: the wanted row, its frames. -/
structure CarI (w W : World) (n6 : Nat) (AW : Option Addr) (cW : Nat) (fs : List Fq) : Prop where
  want : W.ownsRow 0 28 9 (.slice AW n6 cW) n6 (fqs fs)
  each : ∀ q ∈ fs, FqOwn W 0 q ∧ PlQ q
  below : Below w.heap.size w W
theorem CarI.keep {w W W' : World} {n6 cW : Nat} {AW : Option Addr} {fs : List Fq} (h : CarI w W n6 AW cW fs) (hb : Below W.heap.size W W') : CarI w W' n6 AW cW fs :=
  ⟨own_below h.want hb, fun q hq => ⟨(h.each q hq).1.keep hb, (h.each q hq).2⟩, h.below.trans (hb.mono h.below.size)⟩
theorem CarI.moved {w W W' : World} {p n6 cW : Nat} {AW : Option Addr} {fs : List Fq} {s : Rtt.RS} {kq : List (Pk × List Fq)} {next behind : Nat} {wd : Cg.Win} (h : CarI w W n6 AW cW fs) (hp : PathIn W w.heap.size p s kq next behind wd) (hm : Moved w.heap.size p W W') : CarI w W' n6 AW cW fs := by
  obtain ⟨cu, h1, _⟩ := hp.cur
  exact ⟨Pa.own_moved h.want hm h1.1 (by decide) (by decide), fun q hq => ⟨⟨Pa.own_moved (h.each q hq).1.1 hm h1.1 (by decide) (by decide), Pa.own_moved (h.each q hq).1.2 hm h1.1 (by decide) (by decide)⟩, (h.each q hq).2⟩, h.below.trans hm.below⟩
theorem ZeroI.car {w W : World} {p gz n6 c6 cW : Nat} {A6 AW : Option Addr} {fs : List Fq} {kq : List (Pk × List Fq)} (h : ZeroI w W p gz A6 n6 c6 AW cW fs kq) : CarI w W n6 AW cW fs :=
  ⟨own_base h.want (Nat.zero_le _), fun q hq => ⟨(h.each q hq).1, (h.each q hq).2.1⟩, h.below⟩
/-- What was told, at the end. -/
structure GotI (w W : World) (n6 : Nat) (AW : Option Addr) (cW : Nat) (fs : List Fq) (A7 : Option Addr) (n7 c7 : Nat) (gs : List Fq) : Prop where
  car : CarI w W n6 AW cW fs
  len : gs.length = n7
  twin : TwinQ fs gs
  row : W.ownsRow 0 28 9 (.slice A7 n7 c7) n7 (fqs gs)
  own : ∀ q ∈ gs, FqOwn W 0 q
theorem own0 {W : World} {lo : Nat} {q : Fq} (h : FqOwn W lo q) : FqOwn W 0 q := ⟨own_base h.1 (Nat.zero_le _), own_base h.2 (Nat.zero_le _)⟩
theorem twin_get : ∀ {l1 l2 : List Fq}, TwinQ l1 l2 → ∀ (j : Nat) (f g : Fq), l1[j]? = some f → l2[j]? = some g → FqSame f g
  | [], [], _, j, f, g, h, _ => by simp at h
  | _ :: _, _ :: _, h, 0, f, g, hf, hg => by
    simp only [List.getElem?_cons_zero, Option.some.injEq] at hf hg
    subst hf hg
    exact h.1
  | _ :: _, _ :: _, h, j + 1, f, g, hf, hg => twin_get h.2 j f g (by simpa using hf) (by simpa using hg)
  | [], _ :: _, h, _, _, _, _, _ => h.elim
  | _ :: _, [], h, _, _, _, _, _ => h.elim
theorem GotI.keep {w W W' : World} {n6 cW n7 c7 : Nat} {AW A7 : Option Addr} {fs gs : List Fq} (h : GotI w W n6 AW cW fs A7 n7 c7 gs) (hb : Below W.heap.size W W') : GotI w W' n6 AW cW fs A7 n7 c7 gs :=
  ⟨h.car.keep hb, h.len, h.twin, own_below h.row hb, fun q hq => (h.own q hq).keep hb⟩
/-- The three packets. -/
structure Three (kq : List (Pk × List Fq)) (fs : List Fq) (kk : Nat) (k1 k2 k3 : Pk) : Prop where
  map : kq.map (·.1) = [k1, k2, k3]
  twin : TwinQ fs (Pa.allF kq)
  n1 : k1.num = 0
  n2 : k2.num = 1
  n3 : k3.num = 2
  t1 : k1.at' = 0
  t2 : k2.at' = 0
  t3 : k3.at' = 0
  e1 : k1.el = elicF (fs.take kk)
  e2 : k2.el = elicF (fs.drop kk)
  e3 : k3.el = false
theorem Three.each {kq : List (Pk × List Fq)} {fs : List Fq} {kk : Nat} {k1 k2 k3 : Pk} (h : Three kq fs kk k1 k2 k3) : ∀ x ∈ kq, x.1.at' = 0 ∧ x.1.num ≤ 2 := fun x hx => by
  have : x.1 ∈ kq.map (·.1) := List.mem_map.2 ⟨x, hx, rfl⟩
  rw [h.map] at this
  simp only [List.mem_cons, List.not_mem_nil, or_false] at this
  rcases this with e | e | e
  · rw [e]; exact ⟨h.t1, by rw [h.n1]; omega⟩
  · rw [e]; exact ⟨h.t2, by rw [h.n2]; omega⟩
  · rw [e]; exact ⟨h.t3, by rw [h.n3]; omega⟩
theorem Three.all {kq : List (Pk × List Fq)} {fs : List Fq} {kk : Nat} {k1 k2 k3 : Pk} (h : Three kq fs kk k1 k2 k3) : selK (inRs [((0 : Int), (2 : Int))]) kq = kq := by
  refine List.filter_eq_self.2 fun x hx => ?_
  have := (h.each x hx).2
  simp only [inRs, ranB, List.any_cons, List.any_nil, Bool.or_false, inB]
  simp
  omega
theorem Three.probe {kq : List (Pk × List Fq)} {fs : List Fq} {kk : Nat} {k1 k2 k3 : Pk} (h : Three kq fs kk k1 k2 k3) : probeF Rtt.r0 kq 40 = elicF fs := by
  have e : elicF fs = (elicF (fs.take kk) || elicF (fs.drop kk)) := by
    have : fs = fs.take kk ++ fs.drop kk := (List.take_append_drop kk fs).symm
    unfold elicF
    rw [← List.any_append, List.take_append_drop]
  have hw : Rtt.waitF Rtt.r0 = 8 := by decide
  unfold probeF
  rw [h.map, e, ← h.e1, ← h.e2, hw]
  unfold oldF
  simp only [List.find?_cons, List.find?_nil, h.e3]
  cases k1.el
  · cases k2.el
    · rfl
    · simp [h.t2]
  · simp [h.t1]
theorem Three.late {kq : List (Pk × List Fq)} {fs : List Fq} {kk : Nat} {k1 k2 k3 : Pk} (h : Three kq fs kk k1 k2 k3) : selK (lateS 4 60 (Rtt.samp Rtt.r0 1)) kq = kq := by
  have hl : Rtt.lateF (Rtt.samp Rtt.r0 1) = 2 := by decide
  refine List.filter_eq_self.2 fun x hx => ?_
  have := h.each x hx
  unfold lateS selB oldB
  rw [hl, this.1]
  simp
  omega

set_option maxRecDepth 100000 in
set_option maxHeartbeats 64000000 in
theorem spread_walk (l : List Rw) (A : Option Addr) (n c : Nat) (cut how : Int) (w : World) (hr : IsRaws w A c n l) :
    Calls Try.prog 4 #[.slice A n c, .int .i64 cut, .int .i64 how] w fun e w' => e = .returned (.bool true) ∧ Below w.heap.size w w' := by
  have HR := Lib.hid hr
  clear hr
  go_enter Try.func4, Try.ntmps4
  go_wp2_with fail
  refine (Pa.new_path w).mono ?_
  rintro e w1 ⟨p, rfl, hp1, hb1⟩
  have HP1 := Lib.hid hp1
  have HB1 := Lib.hid hb1
  clear hp1 hb1
  go_wp2_with fail
  refine (PaKn.known_any w1).mono ?_
  rintro e w2 ⟨rfl, hb2⟩
  have HP2 := Lib.hid (HP1.out.keep hb2)
  have HB2 := Lib.hid (HB1.out.trans (hb2.mono HB1.out.size))
  have HRI := Lib.hid (right_fqs 8 (by omega) l A n c w2 (raws_keep HR.out HB2.out))
  clear hb2 HP1 HB1
  go_wp2_with fail
  refine HRI.out.mono ?_
  rintro e w3 ⟨A6, n6, c6, qs, rfl, hl6, hn6, ho6, hq6, hb6⟩
  have HN0 : Hid (NoteI w w3 p w2.heap.size A6 n6 c6 qs 0) := ⟨HP2.out.keep hb6, by rw [noted_zero]; exact ho6, fun q hq => ⟨(hq6 q hq).1, (hq6 q hq).2.1, (hq6 q hq).2.2.2.2.1⟩, HB2.out.trans (hb6.mono HB2.out.size), HB2.out.size⟩
  have hc6 : n6 ≤ c6 := by
    obtain ⟨_, _, e, hc, _⟩ := own_form ho6
    simp only [Value.slice.injEq, true_and] at e
    omega
  have HL6 := Lib.hid hl6
  have hn6I : (n6 : Int) ≤ 8 := by omega
  have hc6I : (n6 : Int) ≤ (c6 : Int) := by omega
  clear hb6 ho6 hq6 hl6 HRI HP2 HB2
  go_wp2_with fail
  go_loopw [30] (fun i wr => ∃ j : Nat, j ≤ n6 ∧ i = .int .i64 (j : Int) ∧ Hid (NoteI w wr p w2.heap.size A6 n6 c6 qs j)) (fun i _ => n6 - (intOf i).toNat)
  case atStart => exact ⟨0, Nat.zero_le _, rfl, HN0.out⟩
  case round =>
    clear HN0
    obtain ⟨j, hj, rfl, HK⟩ := hrel
    by_cases hlt : j < n6
    · have hltI : (j : Int) < (n6 : Int) := by omega
      obtain ⟨g, hA⟩ : ∃ g, A6 = some ⟨g, 0, none⟩ := by
        rcases HK.out.row.2 with ⟨e, h0⟩ | ⟨g', cap, cu, e, _⟩
        · simp only [Value.slice.injEq] at e
          omega
        · simp only [Value.slice.injEq] at e
          exact ⟨g', e.1⟩
      subst hA
      obtain ⟨q, hq⟩ : ∃ q, qs[j]? = some q := ⟨_, List.getElem?_eq_getElem (by have := HL6.out; omega)⟩
      obtain ⟨u5, hu5⟩ : ∃ u, wr.cell? ⟨g, j * 9 + 5, none⟩ = some u := by
        have := HK.out.row.cellAt (j * 9 + 5) (by omega)
        rw [fqs_get _ j _ (noted_get j qs j q hq) 5 (by omega)] at this
        exact ⟨_, this⟩
      have hf5 : wr.frozen? ⟨g, j * 9 + 5, none⟩ = false := HK.out.row.frozenAt _
      have HN' := Lib.hid (HK.out.put hq)
      have hw100 : IntKind.i64.wrap (100 + (j : Int)) = 100 + (j : Int) := IntWalk.i64_in _ (by omega)
      clear HK hq
      go_wp2_with fail
      refine ⟨⟨j + 1, by omega, by go_num, HN'.out⟩, ?_⟩
      simp [intOf]; omega
    · have hltI : ¬ (j : Int) < (n6 : Int) := by omega
      obtain rfl : n6 = j := by omega
      have HN6 : Hid (∀ q ∈ noted n6 qs, FqOwn wr 0 q ∧ PlQ q ∧ q.dn ≤ 1099511627776) := fun q hq => by
        obtain ⟨i, hi, e⟩ := List.mem_iff_getElem.1 hq
        have hi' : i < qs.length := by rwa [noted_len] at hi
        have h1 : (noted n6 qs)[i]? = some q := by rw [List.getElem?_eq_getElem hi, e]
        rw [noted_get _ _ _ _ (List.getElem?_eq_getElem hi')] at h1
        simp only [Option.some.injEq] at h1
        subst h1
        have := HK.out.each _ (List.getElem_mem hi')
        split
        · exact this
        · exact this
      have hnl : (noted n6 qs).length = n6 := by rw [noted_len]; exact HL6.out
      obtain ⟨fs, hfs⟩ : ∃ x, noted n6 qs = x := ⟨_, rfl⟩
      have hrow := HK.out.row
      rw [hfs] at HN6 hrow hnl
      have HNL := Lib.hid hnl
      have HROW := Lib.hid hrow
      obtain ⟨i0, hi, hz0, hz1, hz2⟩ := info_parts infoFr
      have HI := Lib.hid (And.intro hi (And.intro hz0 (And.intro hz1 hz2)))
      obtain ⟨wa, hwa⟩ : ∃ x, wr.alloc (.cells #[] 28) = x := ⟨_, rfl⟩
      obtain ⟨gz, hgz⟩ : ∃ x, wr.heap.size = x := ⟨_, rfl⟩
      have hba : Below wr.heap.size wr wa := hwa ▸ (Below.refl _ _).alloc (Nat.le_refl _) _
      have hd5 : Hid (wa.ownsRow wr.heap.size 28 9 (.slice (some ⟨gz, 0, none⟩) 0 0) 0 []) := by
        rw [← hwa]
        exact own_new wr #[] _ 9 0 gz wr.heap.size hgz.symm rfl (by unfold maxLen; omega) (Nat.le_refl _)
      have hd1 : Hid (Rd wa wr.heap.size A6 (n6 * 9) (fqs fs)) := (Rd.of_own hrow).below hba (Nat.le_refl _)
      have hd2 : Hid (0 + n6 ≤ maxLen) := by show _ ≤ _; unfold maxLen; omega
      have hd3 : Hid ((0 + n6) * 104 ≤ 140737488355328) := by show _ ≤ _; omega
      have hd4 : Hid (wr.heap.size ≤ wa.heap.size) := hba.size
      have HBA := Lib.hid hba
      clear hi hz0 hz1 hz2 hrow hfs hba hnl
      go_upto_region 10 with (fail)
      go_wp2_with (at_builtin; (try rw [hwa]); (try rw [hgz]); refine wpList_app _ rfl (.tmp 40) (.tmp 41) 31 rfl wr.heap.size 28 i0 (.agg #[.int .i64 0, .int .i64 0, .int .i64 0, .int .i64 0, .int .i64 0, .int .i64 0, .bool false, .slice none 0 0, .slice none 0 0]) 9 104 Try.underlying31 HI.out.1 HI.out.2.1 HI.out.2.2.1 HI.out.2.2.2 rfl (by decide) (.slice (some ⟨gz, 0, none⟩) 0 0) 0 [] rfl hd5.out wr.heap.size A6 n6 c6 (fqs fs) rfl hd1.out (ones_fqs _) hd2.out hd3.out hd4.out ?_)
      intro v5 w5 ho5 hg5
      obtain ⟨AW, cW, e5, hcW, _⟩ := own_form ho5
      subst e5
      have HG5 : Hid (Below gz wr w5) := by
        have h1 := HBA.out
        rw [hgz] at h1
        exact h1.grown hg5 (by have := hd4.out; omega) (fun g hg => by
          simp only [Value.ownBlock, Option.some.injEq] at hg
          omega)
      have HO5 := Lib.hid ho5
      have hcWI : (n6 : Int) ≤ (cW : Int) := by omega
      have ha0 := Int.emod_nonneg cut (show (n6 : Int) + 1 ≠ 0 by omega)
      have ha1 := Int.emod_lt_of_pos cut (show (0 : Int) < (n6 : Int) + 1 by omega)
      obtain ⟨kk, hkk, hkn⟩ : ∃ a : Nat, cut % ((n6 : Int) + 1) = (a : Int) ∧ a ≤ n6 := ⟨(cut % ((n6 : Int) + 1)).toNat, by omega, by omega⟩
      have HPK := Lib.hid (fun W => pick_any cut ((n6 : Int) + 1) W (by omega) (by omega))
      rw [hkk] at HPK
      have hkI : (kk : Int) ≤ (n6 : Int) := by omega
      clear hg5 ho5 hd1 hd2 hd3 hd4 hd5 HBA ha0 ha1 hkk HI
      go_wp2_with fail
      refine (HPK.out _).mono ?_
      rintro e wq ⟨rfl, hwq⟩
      have hwq := hwq.symm
      subst hwq
      clear HPK
      have HLT : Hid (∀ a, A6 = some a → a.block < gz ∧ a.off = 0 ∧ a.spot = none) := fun a ha => by
        subst ha
        have h1 := HROW.out.lt
        rcases HROW.out.2 with ⟨e, _⟩ | ⟨g', cap, cu, e, _⟩
        · simp at e
        · simp only [Value.slice.injEq, Option.some.injEq] at e
          obtain ⟨rfl, _⟩ := e
          have := (h1 g' rfl).2
          exact ⟨by show g' < gz; omega, rfl, rfl⟩
      have hgr : w.heap.size ≤ gz := by have := HK.out.below.size; omega
      have HS0 : Hid (SprI w wq p gz A6 n6 c6 AW cW fs [] 0) := by
        have hg5 : Below wr.heap.size wr wq := by rw [hgz]; exact HG5.out
        exact ⟨HK.out.path.keep hg5, HO5.out, own_base (own_below HROW.out hg5) HK.out.base, fun x hx => (by cases hx), fun q hq => ⟨(HN6.out q hq).1.keep hg5, (HN6.out q hq).2⟩, HK.out.below.trans (hg5.mono HK.out.below.size), hgr, by have := hg5.size; omega, HNL.out⟩
      have hrd0 := HS0.out.rd kk hkn
      have HSD := Lib.hid (send_path2 HS0.out.path 0 ⟨by decide, by decide⟩ A6 kk c6 (fs.take kk) (by rw [List.length_take, HNL.out]; omega) hrd0.1 (fun q hq => HS0.out.ok q (List.mem_of_mem_take hq)) (by omega) (by omega) (by decide))
      clear hrd0 HG5 HO5 HN6 HROW HK hgr
      go_wp2_with fail
      refine HSD.out.mono ?_
      rintro e wb ⟨rfl, hs⟩
      obtain ⟨k1, q1, a1, b1, e1, t1, hs1⟩ := HS0.out.sent hs
      have HS1 := Lib.hid hs1
      clear hs hs1 HSD HS0
      have HKN : Hid (kk ≤ n6) := hkn
      go_upto_region 13 with (fail)
      go_cut [11] (fun v wx => v = .int .i64 (kk : Int) ∧ ∃ k2 q2, Hid (k2.num = 1 ∧ k2.at' = 0 ∧ k2.el = elicF (fs.drop kk) ∧ TwinQ (fs.drop kk) q2 ∧ SprI w wx p gz A6 n6 c6 AW cW fs ([] ++ [(k1, q1)] ++ [(k2, q2)]) 2))
      case first =>
        have SEND : Hid (∀ A9 c9, n6 - kk ≤ c9 → (kk < n6 → ∀ b off, A6 = some ⟨b, off, none⟩ → A9 = some ⟨b, off + kk * 9, none⟩) → Calls Try.prog 8 #[.pointer (some ⟨p, 0, none⟩), .int .i64 0, .slice A9 (n6 - kk) c9] wb fun e w' => e = .returned (.int .i64 ((0 + 1 : Nat) : Int)) ∧ SendP2 wb w.heap.size p Rtt.r0 ([] ++ [(k1, q1)]) (0 + 1) 0 ⟨4, 32, 0, 0⟩ 0 (fs.drop kk) w') := fun A9 c9 hc9 hA9 =>
          send_path2 HS1.out.path 0 ⟨by decide, by decide⟩ A9 (n6 - kk) c9 (fs.drop kk) (by rw [List.length_drop, HNL.out]) (HS1.out.rd2 kk HKN.out A9 hA9) (fun q hq => HS1.out.ok q (List.mem_of_mem_drop hq)) (by omega) hc9 (by decide)
        go_wp2_with fail
        · have hck : c6 = kk := by assumption
          have HSD := Lib.hid (SEND.out A6 0 (by omega) (fun h => by omega))
          have HCK := Lib.hid hck
          clear hck SEND
          refine HSD.out.mono ?_
          rintro e wc ⟨rfl, hs⟩
          obtain ⟨k2, q2, a2, b2, e2, t2, hs2⟩ := HS1.out.sent hs
          have HF := Lib.hid (And.intro a2 (And.intro b2 (And.intro e2 (And.intro t2 hs2))))
          clear hs hs2 HSD HS1 a2 b2 e2 t2
          go_wp2_with fail
          have hck := HCK.out
          subst hck
          go_meet
          case rel => exact ⟨rfl, k2, q2, HF⟩
        · have hck : ¬ c6 = kk := by assumption
          have HSD := Lib.hid (SEND.out (A6.map fun x => x.add (kk * 9)) (c6 - kk) (by omega) (fun h b off hA => by rw [hA]; simp [Addr.add]))
          clear hck SEND
          refine HSD.out.mono ?_
          rintro e wc ⟨rfl, hs⟩
          obtain ⟨k2, q2, a2, b2, e2, t2, hs2⟩ := HS1.out.sent hs
          have HF := Lib.hid (And.intro a2 (And.intro b2 (And.intro e2 (And.intro t2 hs2))))
          clear hs hs2 HSD HS1 a2 b2 e2 t2
          go_wp2_with fail
          go_meet
          case rel => exact ⟨rfl, k2, q2, HF⟩
      case rest =>
        obtain ⟨rfl, k2, q2, HF⟩ := hcut
        obtain ⟨a2, b2, e2, t2, hs2⟩ := HF.out
        have HS2 := Lib.hid hs2
        have HSD := Lib.hid (send_path2 hs2.path 0 ⟨by decide, by decide⟩ none 0 0 [] rfl (Rd.nil _ _ _) (fun q hq => by cases hq) (by omega) (by omega) (by decide))
        clear hs2 HF HS1
        go_wp2_with fail
        refine HSD.out.mono ?_
        rintro e wd ⟨rfl, hs⟩
        obtain ⟨k3, q3, a3, b3, e3, t3, hs3⟩ := HS2.out.sent hs
        obtain ⟨kq, hkq⟩ : ∃ x, [] ++ [(k1, q1)] ++ [(k2, q2)] ++ [(k3, q3)] = x := ⟨_, rfl⟩
        have HQ : Hid (Three kq fs kk k1 k2 k3) := by
          refine ⟨by rw [← hkq]; rfl, ?_, a1, a2, a3, b1, b2, b3, e1, e2, e3⟩
          have e : Pa.allF kq = q1 ++ q2 ++ q3 := by rw [← hkq]; simp [Pa.allF]
          have h : TwinQ (fs.take kk ++ fs.drop kk ++ []) (q1 ++ q2 ++ q3) := Sq.TwinQ.app (Sq.TwinQ.app t1 t2) t3
          rw [e]
          simpa using h
        rw [hkq] at hs3
        have HS3 : Hid (ZeroI w wd p gz A6 n6 c6 AW cW fs kq) := ⟨hs3.path, hs3.want, ⟨_, hs3.row⟩, hs3.rows, hs3.each, hs3.below, hs3.lo, hs3.hi, hs3.len, HLT.out⟩
        clear hs hs3 HSD HS2 a1 a2 a3 b1 b2 b3 e1 e2 e3 t1 t2 t3 hkq
        go_wp2_with fail
        go_loopw [62] (fun i wr => ∃ j : Nat, j ≤ n6 ∧ i = .int .i64 (j : Int) ∧ Hid (ZeroI w wr p gz A6 n6 c6 AW cW fs kq)) (fun i _ => n6 - (intOf i).toNat)
        case atStart => exact ⟨0, Nat.zero_le _, rfl, HS3.out⟩
        case round =>
          clear HS3
          obtain ⟨j, hj, rfl, HK⟩ := hrel
          by_cases hlt : j < n6
          · have hltI : (j : Int) < (n6 : Int) := by omega
            obtain ⟨g, xs, hA, hrow⟩ := HK.out.blk (by omega)
            subst hA
            have hxl : xs.length = n6 * 9 := hrow.1
            have hcx : ∀ t, t < 9 → ∃ u, wr.cell? ⟨g, j * 9 + t, none⟩ = some u := fun t ht => by
              have := hrow.cellAt (j * 9 + t) (by omega)
              rw [List.getElem?_eq_getElem (by omega)] at this
              exact ⟨_, this⟩
            obtain ⟨z0, d0⟩ := hcx 0 (by omega)
            obtain ⟨z1, d1⟩ := hcx 1 (by omega)
            obtain ⟨z2, d2⟩ := hcx 2 (by omega)
            obtain ⟨z3, d3⟩ := hcx 3 (by omega)
            obtain ⟨z4, d4⟩ := hcx 4 (by omega)
            obtain ⟨z5, d5⟩ := hcx 5 (by omega)
            obtain ⟨z6, d6⟩ := hcx 6 (by omega)
            obtain ⟨z7, d7⟩ := hcx 7 (by omega)
            obtain ⟨z8, d8⟩ := hcx 8 (by omega)
            rw [Nat.add_zero] at d0
            have hfz : ∀ t, wr.frozen? ⟨g, t, none⟩ = false := fun t => hrow.frozenAt t
            have HN' := Lib.hid ((((((((HK.out.put (j * 9) (.int .i64 12)).put (j * 9 + 1) (.int .i64 0)).put (j * 9 + 2) (.int .i64 0)).put (j * 9 + 3) (.int .i64 0)).put (j * 9 + 4) (.int .i64 0)).put (j * 9 + 5) (.int .i64 0)).put (j * 9 + 6) (.bool false)).put (j * 9 + 7) (.slice none 0 0) |>.put (j * 9 + 8) (.slice none 0 0))
            clear HK hrow hxl hcx
            go_wp2_with fail
            refine ⟨⟨j + 1, by omega, by go_num, HN'.out⟩, ?_⟩
            simp [intOf]; omega
          · have hltI : ¬ (j : Int) < (n6 : Int) := by omega
            obtain rfl : n6 = j := by omega
            have HZ := HK
            clear HK
            have hq3a := Int.emod_nonneg how (show (3 : Int) ≠ 0 by decide)
            have hq3b := Int.emod_lt_of_pos how (show (0 : Int) < 3 by decide)
            have HPH := Lib.hid (fun W => pick_any how 3 W (by decide) (by decide))
            obtain ⟨q3, hq3⟩ : ∃ x, how % 3 = x := ⟨_, rfl⟩
            rw [hq3] at HPH hq3a hq3b
            clear hq3
            go_wp2_with fail
            refine (HPH.out _).mono ?_
            rintro e wq ⟨rfl, hwq⟩
            have hwq := hwq.symm
            subst hwq
            clear HPH
            go_upto_block 4 with (fail)
            go_cut [13, 14, 15, 16, 17] (fun v13 v14 v15 v16 v17 wx => v14 = .int .i64 0 ∧ ∃ A7 n7 c7 gs, v13 = .slice A7 n7 c7 ∧ Hid (GotI w wx n6 AW cW fs A7 n7 c7 gs))
            case first =>
              have hatz := HQ.out.each
              have htl : (Pa.allF kq).length = n6 := by rw [← Sq.TwinQ.len HQ.out.twin]; exact HNL.out
              have HAT := Lib.hid hatz
              have HTL := Lib.hid htl
              clear hatz htl
              by_cases h0 : q3 = 0
              · have hb0 : (q3 == 0) = true := by simp [h0]
                clear h0
                obtain ⟨u1, hu1⟩ : ∃ x, wq.heap.size = x := ⟨_, rfl⟩
                obtain ⟨w4, hw4⟩ : ∃ x, wq.alloc (.cells #[.int .i64 0, .int .i64 2] 29) = x := ⟨_, rfl⟩
                have hb4 : Below wq.heap.size wq w4 := hw4 ▸ (Below.refl _ _).alloc (Nat.le_refl _) _
                have hr4 : Rd w4 w4.heap.size (some ⟨u1, 0, none⟩) (1 * 2) (ints (pl [((0 : Int), (2 : Int))])) := by
                  rw [← hw4]
                  exact rd_new _ _ _ _ _ _ _ hu1.symm (by simp) rfl rfl
                have HZ4 := Lib.hid (HZ.out.keep hb4)
                have HHD := Lib.hid (Pa.heard_path HZ4.out.path [((0 : Int), (2 : Int))] (by simp) (some ⟨u1, 0, none⟩) 1 (by simp) hr4 1 ⟨by decide, by decide⟩ (fun x hx => by have := HAT.out x hx; omega) (by omega) (by have := HTL.out; omega))
                go_upto_region 24 with (fail)
                go_wp2_with fail
                clear hw4 hu1 hb4 hr4 HZ
                refine HHD.out.mono ?_
                intro e w5 hor
                clear HHD
                rcases hor with ⟨⟨x, hx, hbad⟩, _⟩ | ⟨_, A7, c7, rfl, ho, hq, hp, hm⟩
                · obtain rfl := List.mem_singleton.1 hx
                  simp only at hbad
                  omega
                · rw [HQ.out.all] at ho hq
                  have HG : Hid (GotI w w5 n6 AW cW fs A7 (Pa.allF kq).length c7 (Pa.allF kq)) := ⟨HZ4.out.car.moved HZ4.out.path hm, rfl, HQ.out.twin, own_base ho (Nat.zero_le _), fun q h => own0 (hq q h)⟩
                  rw [HQ.out.all]
                  clear ho hq hp hm HZ4
                  go_wp2_with fail
                  go_meet
                  case rel => exact ⟨rfl, A7, _, c7, _, rfl, HG⟩
              · have hb0 : (q3 == 0) = false := by simp [h0]
                by_cases h1 : q3 = 1
                · have hb1 : (q3 == 1) = true := by simp [h1]
                  clear h0 h1
                  obtain ⟨u1, hu1⟩ : ∃ x, wq.heap.size = x := ⟨_, rfl⟩
                  obtain ⟨w4, hw4⟩ : ∃ x, wq.alloc (.cells #[.int .i64 1, .int .i64 0, .int .i64 0, .int .i64 0, .int .i64 0, .int .i64 0, .bool false, .slice none 0 0, .slice none 0 0, .int .i64 1, .int .i64 0, .int .i64 0, .int .i64 0, .int .i64 0, .int .i64 0, .bool false, .slice none 0 0, .slice none 0 0] 28) = x := ⟨_, rfl⟩
                  have hb4 : Below wq.heap.size wq w4 := hw4 ▸ (Below.refl _ _).alloc (Nat.le_refl _) _
                  have hr4 : Rd w4 w4.heap.size (some ⟨u1, 0, none⟩) (2 * 9) (fqs [(⟨1, 0, 0, 0, 0, 0, false, none, 0, 0, [], none, 0, 0, []⟩ : Fq), (⟨1, 0, 0, 0, 0, 0, false, none, 0, 0, [], none, 0, 0, []⟩ : Fq)]) := by
                    rw [← hw4]
                    exact rd_new _ _ _ _ _ _ _ hu1.symm (by simp) rfl rfl
                  have hf4 : ∀ y ∈ [(⟨1, 0, 0, 0, 0, 0, false, none, 0, 0, [], none, 0, 0, []⟩ : Fq), (⟨1, 0, 0, 0, 0, 0, false, none, 0, 0, [], none, 0, 0, []⟩ : Fq)], FqOk w4 y := fun y hy => by
                    simp only [List.mem_cons, List.not_mem_nil, or_false, or_self] at hy
                    subst hy
                    exact ⟨Rd.nil _ _ _, fun u hu => (by cases hu), by show 0 ≤ _; omega, Rd.nil _ _ _, fun u hu => (by cases hu), by show 0 ≤ _; omega⟩
                  have HZ4 := Lib.hid (HZ.out.keep hb4)
                  have HSD := Lib.hid (Pa.send_path HZ4.out.path 1 ⟨by decide, by decide⟩ (some ⟨u1, 0, none⟩) 2 2 [(⟨1, 0, 0, 0, 0, 0, false, none, 0, 0, [], none, 0, 0, []⟩ : Fq), (⟨1, 0, 0, 0, 0, 0, false, none, 0, 0, [], none, 0, 0, []⟩ : Fq)] rfl hr4 hf4 (by omega) (Nat.le_refl _) (by decide))
                  go_upto_region 26 with (fail)
                  go_wp2_with fail
                  clear hw4 hu1 hb4 hr4 hf4 HZ
                  refine HSD.out.mono ?_
                  rintro e w5 ⟨rfl, k4, q4, a4, b4, e4, l4, _, hp5, hm5⟩
                  have HC5 := Lib.hid (HZ4.out.car.moved HZ4.out.path hm5)
                  have hl2 : q4.length = 2 := l4
                  have hk4 : k4.el = true := e4
                  obtain ⟨u2, hu2⟩ : ∃ x, w5.heap.size = x := ⟨_, rfl⟩
                  obtain ⟨w6, hw6⟩ : ∃ x, w5.alloc (.cells #[.int .i64 3, .int .i64 3] 29) = x := ⟨_, rfl⟩
                  have hb6 : Below w5.heap.size w5 w6 := hw6 ▸ (Below.refl _ _).alloc (Nat.le_refl _) _
                  have hr6 : Rd w6 w6.heap.size (some ⟨u2, 0, none⟩) (1 * 2) (ints (pl [((3 : Int), (3 : Int))])) := by
                    rw [← hw6]
                    exact rd_new _ _ _ _ _ _ _ hu2.symm (by simp) rfl rfl
                  have HP6 := Lib.hid (hp5.keep hb6)
                  have HC6 := Lib.hid (HC5.out.keep hb6)
                  have hsel : selK (inRs [((3 : Int), (3 : Int))]) (kq ++ [(k4, q4)]) = [(k4, q4)] := by
                    unfold selK
                    rw [List.filter_append, List.filter_eq_nil_iff.2 (fun x hx => by
                      have := (HAT.out x hx).2
                      simp [inRs, ranB, inB]
                      omega)]
                    simp [inRs, ranB, inB, a4]
                  have hrest : selK (fun k => !inRs [((3 : Int), (3 : Int))] k) (kq ++ [(k4, q4)]) = kq := by
                    unfold selK
                    rw [List.filter_append, List.filter_eq_self.2 (fun x hx => by
                      have := (HAT.out x hx).2
                      simp [inRs, ranB, inB]
                      omega)]
                    simp [inRs, ranB, inB, a4]
                  have hhs : heardS Rtt.r0 [(k4, q4)] 4 2 = Rtt.samp Rtt.r0 1 := by
                    unfold heardS lastN Pa.lastAt
                    simp [els, hk4, a4, b4]
                  have HHD := Lib.hid (Pa.heard_path HP6.out [((3 : Int), (3 : Int))] (by simp) (some ⟨u2, 0, none⟩) 1 (by simp) hr6 2 ⟨by decide, by decide⟩ (fun x hx => by
                    rcases List.mem_append.1 hx with hx | hx
                    · have := HAT.out x hx; omega
                    · obtain rfl := List.mem_singleton.1 hx
                      show _ ≤ k4.at' ∧ k4.at' ≤ _
                      omega) (by omega) (by
                    rw [Pa.allF_app, List.length_append, HTL.out]
                    have e : Pa.allF [((k4, q4) : Pk × List Fq)] = q4 := by simp [Pa.allF]
                    rw [e]; omega))
                  have hbf : behF 0 [((3 : Int), (3 : Int))] = 4 := by decide
                  rw [hsel, hrest, hbf, hhs] at HHD
                  have HAT4 : Hid (True) := trivial
                  clear hm5 hp5 hb6 hr6 HC5 HSD HZ4 hsel hrest hhs hbf a4 b4 e4 l4 hk4 hl2
                  go_upto_region 27 with (fail)
                  go_wp2_with fail
                  clear hw6 hu2
                  refine HHD.out.mono ?_
                  intro e w7 hor
                  clear HHD
                  rcases hor with ⟨⟨x, hx, hbad⟩, _⟩ | ⟨_, A8, c8, rfl, _, _, hp7, hm7⟩
                  · obtain rfl := List.mem_singleton.1 hx
                    simp only at hbad
                    omega
                  · have HC7 := Lib.hid (HC6.out.moved HP6.out hm7)
                    have HLA := Lib.hid (Pa.late_path hp7 60 ⟨by decide, by decide⟩ (by omega) (by have := HTL.out; omega))
                    have hp7' := hp7
                    have HP7 := Lib.hid hp7'
                    rw [HQ.out.late] at HLA
                    clear hp7 hp7' hm7 HC6 HP6
                    go_wp2_with fail
                    refine HLA.out.mono ?_
                    rintro e w8 ⟨A7, c7, rfl, ho, hq, hp, hm⟩
                    have HG : Hid (GotI w w8 n6 AW cW fs A7 (Pa.allF kq).length c7 (Pa.allF kq)) := ⟨HC7.out.moved HP7.out hm, rfl, HQ.out.twin, own_base ho (Nat.zero_le _), fun q h => own0 (hq q h)⟩
                    clear ho hq hp hm HLA HP7 HC7
                    go_wp2_with fail
                    go_meet
                    case rel => exact ⟨rfl, A7, _, c7, _, rfl, HG⟩
                · have hb1 : (q3 == 1) = false := by simp [h1]
                  have hb2 : (q3 == 2) = true := by simp; omega
                  clear h0 h1
                  have HW := Lib.hid HZ.out.want
                  go_wp2_with fail
                  go_loopw [15, 98] (fun v i wr => ∃ j : Nat, j ≤ n6 ∧ i = .int .i64 (j : Int) ∧ (∃ bb, v = .bool bb ∧ Hid (bb = elicF (fs.take j))) ∧ wr = wq) (fun _ i _ => n6 - (intOf i).toNat)
                  case atStart => exact ⟨0, Nat.zero_le _, rfl, ⟨false, rfl, rfl⟩, rfl⟩
                  case round =>
                    obtain ⟨j, hj, rfl, ⟨bb, rfl, HB⟩, hwr⟩ := hrel
                    subst wr
                    by_cases hlt : j < n6
                    · have hltI : (j : Int) < (n6 : Int) := by omega
                      obtain ⟨q, hq⟩ : ∃ q, fs[j]? = some q := ⟨_, List.getElem?_eq_getElem (by have := HNL.out; omega)⟩
                      obtain ⟨_, _, ew, hcw, _, _, rw⟩ := own_form HW.out
                      simp only [Value.slice.injEq, true_and] at ew
                      obtain ⟨rfl, rfl⟩ := ew
                      obtain ⟨b, off, hA, hbl, d0, _⟩ := Pa.fq_cells rw HNL.out j q hq
                      subst hA
                      have HT : Hid (elicF (fs.take (j + 1)) = (elicF (fs.take j) || (!(q.k == 2) && !(q.k == 12)))) := by
                        show _ = _
                        rw [Pa.take_one fs j q hq]
                        unfold elicF
                        rw [List.any_append]
                        simp
                      rw [← HB.out] at HT
                      obtain ⟨qk, hqk⟩ : ∃ x, q.k = x := ⟨_, rfl⟩
                      rw [hqk] at HT d0
                      clear hq rw hqk hbl HB
                      cases bb
                      · by_cases h2 : qk = 2
                        · subst h2
                          go_wp2_with fail
                          refine ⟨⟨j + 1, by omega, by go_num, ⟨_, rfl, HT.out.symm⟩, trivial⟩, ?_⟩
                          simp [intOf]; omega
                        · by_cases h12 : qk = 12
                          · subst h12
                            go_wp2_with fail
                            refine ⟨⟨j + 1, by omega, by go_num, ⟨_, rfl, HT.out.symm⟩, trivial⟩, ?_⟩
                            simp [intOf]; omega
                          · have g1 : (qk != 2) = true := by simpa using h2
                            have g2 : (qk != 12) = true := by simpa using h12
                            have HT2 : Hid (true = elicF (fs.take (j + 1))) := by show _ = _; rw [HT.out]; simp [h2, h12]
                            clear HT
                            go_wp2_with fail
                            refine ⟨⟨j + 1, by omega, by go_num, ⟨_, rfl, HT2.out⟩, trivial⟩, ?_⟩
                            simp [intOf]; omega
                      · have HT2 : Hid (true = elicF (fs.take (j + 1))) := by show _ = _; rw [HT.out]; rfl
                        clear HT
                        go_wp2_with fail
                        refine ⟨⟨j + 1, by omega, by go_num, ⟨_, rfl, HT2.out⟩, trivial⟩, ?_⟩
                        simp [intOf]; omega
                    · have hltI : ¬ (j : Int) < (n6 : Int) := by omega
                      obtain rfl : n6 = j := by omega
                      have hbb : bb = elicF fs := by
                        have := HB.out
                        rwa [List.take_of_length_le (by rw [HNL.out]; exact Nat.le_refl _)] at this
                      have HPB := Lib.hid (Pa.probe_path HZ.out.path 40 ⟨by decide, by decide⟩ (fun x hx => by have := HAT.out x hx; omega) ⟨by decide, by decide⟩ (by omega) (by have := HTL.out; omega))
                      rw [HQ.out.probe, ← hbb] at HPB
                      clear hbb HB HW
                      go_wp2_with fail
                      refine HPB.out.mono ?_
                      intro e w5 hor
                      clear HPB
                      rcases hor with ⟨hpr, rfl, q5, hw5⟩ | ⟨_, A7, c7, rfl, ho, hq, hp, hm⟩
                      · subst hpr
                        have HBL : Hid (Below w.heap.size w w5) := by rw [hw5]; exact HZ.out.below.trans (Below.drewN' _ _ _)
                        clear hw5
                        go_wp2_with fail
                        go_ret
                        exact ⟨rfl, HBL.out⟩
                      · have HG : Hid (GotI w w5 n6 AW cW fs A7 (Pa.allF kq).length c7 (Pa.allF kq)) := ⟨HZ.out.car.moved HZ.out.path hm, rfl, HQ.out.twin, own_base ho (Nat.zero_le _), fun q h => own0 (hq q h)⟩
                        clear ho hq hp hm
                        go_wp2_with fail
                        go_meet
                        case rel => exact ⟨rfl, A7, _, c7, _, rfl, HG⟩
            case rest =>
              obtain ⟨rfl, A7, n7, c7, gs, rfl, HG⟩ := hcut
              have hn7 : n7 = n6 := by rw [← HG.out.len, ← Sq.TwinQ.len HG.out.twin]; exact HNL.out
              subst hn7
              clear HZ HQ
              go_wp2_with fail
              go_loopw [139] (fun i wr => ∃ j : Nat, j ≤ n7 ∧ i = .int .i64 (j : Int) ∧ Hid (GotI w wr n7 AW cW fs A7 n7 c7 gs)) (fun i _ => n7 - (intOf i).toNat)
              case atStart => exact ⟨0, Nat.zero_le _, rfl, HG.out⟩
              case round =>
                clear HG
                obtain ⟨j, hj, rfl, HK⟩ := hrel
                by_cases hlt : j < n7
                · have hltI : (j : Int) < (n7 : Int) := by omega
                  obtain ⟨f, hf⟩ : ∃ q, fs[j]? = some q := ⟨_, List.getElem?_eq_getElem (by have := HNL.out; omega)⟩
                  obtain ⟨g, hg⟩ : ∃ q, gs[j]? = some q := ⟨_, List.getElem?_eq_getElem (by have := HK.out.len; omega)⟩
                  have hsame := twin_get HK.out.twin j f g hf hg
                  obtain ⟨_, _, ew, hcw, _, _, rw1⟩ := own_form HK.out.car.want
                  simp only [Value.slice.injEq, true_and] at ew
                  obtain ⟨rfl, rfl⟩ := ew
                  obtain ⟨_, _, e7, hc7, _, _, rw7⟩ := own_form HK.out.row
                  simp only [Value.slice.injEq, true_and] at e7
                  obtain ⟨rfl, rfl⟩ := e7
                  obtain ⟨bw, offw, hA, hbl, d0, d1, d2, d3, d4, d5, d6, d7, d8⟩ := Pa.fq_cells rw1 HNL.out j f hf
                  subst hA
                  obtain ⟨b7, off7, hA, hbl7, y0, y1, y2, y3, y4, y5, y6, y7, y8⟩ := Pa.fq_cells rw7 HK.out.len j g hg
                  subst hA
                  have hof := HK.out.car.each f (List.mem_of_getElem? hf)
                  have hog := HK.out.own g (List.mem_of_getElem? hg)
                  obtain ⟨gk, gid, goff, ga, gb, gno, gfin, gda, gdn, gdc, gds, gsa, gsn, gsc, gss⟩ := g
                  obtain ⟨e1, e2, e3, e4, e5, e6, e7, e8, e9, e10, e11⟩ := hsame
                  simp only at e1 e2 e3 e4 e5 e6 e7 e8 e9 e10 e11 y0 y1 y2 y3 y4 y5 y6 y7 y8 hog
                  subst e1 e2 e3 e4 e5 e6 e7 e8 e9 e10 e11
                  have hpl := hof.2
                  obtain ⟨_, _, x1, _, _, _, r1⟩ := own_form hof.1.1
                  obtain ⟨_, _, x2, k2', _, _, r2⟩ := own_form hof.1.2
                  obtain ⟨_, _, x3, _, _, _, r3⟩ := own_form hog.1
                  obtain ⟨_, _, x4, k4', _, _, r4⟩ := own_form hog.2
                  simp only [Value.slice.injEq, true_and] at x1 x2 x3 x4
                  rw [← x1.1, Nat.mul_one, hpl.1] at r1
                  rw [← x2.1, hpl.2.1] at r2
                  rw [← x3.1, Nat.mul_one] at r3
                  rw [← x4.1] at r4
                  rw [← x2.2] at k2'
                  rw [← x4.2] at k4'
                  simp only at r3 r4
                  rw [hpl.1] at r3
                  rw [hpl.2.1] at r4
                  have hsn := hpl.2.2
                  have HSM : Hid (∀ W, Below wr.heap.size wr W → Calls Try.prog 18 #[.agg #[.int .i64 f.k, .int .i64 f.id, .int .i64 f.off, .int .i64 f.a, .int .i64 f.b, .int .i64 f.note, .bool f.fin, .slice gda f.dn gdc, .slice gsa f.sn gsc], .agg #[.int .i64 f.k, .int .i64 f.id, .int .i64 f.off, .int .i64 f.a, .int .i64 f.b, .int .i64 f.note, .bool f.fin, .slice f.da f.dn f.dc, .slice f.sa f.sn f.sc]] W fun e w' => e = .returned (.bool true) ∧ Below W.heap.size W w') := fun W hW =>
                    Sq.rsame_same f.k f.id f.off f.a f.b f.note f.note f.fin (Sq.dOf f) (Sq.eOf f) wr.heap.size wr.heap.size gda f.da gsa f.sa f.dn gdc f.dc f.sn gsc f.sc W (r3.below hW (Nat.le_refl _)) (r1.below hW (Nat.le_refl _)) (r4.below hW (Nat.le_refl _)) (r2.below hW (Nat.le_refl _)) hW.size hW.size (by omega) k4' k2'
                  have HS : Hid (∀ W, Below wr.heap.size wr W → W.cell? ⟨b7, off7 + j * 9, none⟩ = some (.int .i64 f.k) ∧ W.cell? ⟨b7, off7 + j * 9 + 1, none⟩ = some (.int .i64 f.id) ∧ W.cell? ⟨b7, off7 + j * 9 + 2, none⟩ = some (.int .i64 f.off) ∧ W.cell? ⟨b7, off7 + j * 9 + 3, none⟩ = some (.int .i64 f.a) ∧ W.cell? ⟨b7, off7 + j * 9 + 4, none⟩ = some (.int .i64 f.b) ∧ W.cell? ⟨b7, off7 + j * 9 + 5, none⟩ = some (.int .i64 f.note) ∧ W.cell? ⟨b7, off7 + j * 9 + 6, none⟩ = some (.bool f.fin) ∧ W.cell? ⟨b7, off7 + j * 9 + 7, none⟩ = some (.slice gda f.dn gdc) ∧ W.cell? ⟨b7, off7 + j * 9 + 8, none⟩ = some (.slice gsa f.sn gsc) ∧ W.cell? ⟨bw, offw + j * 9, none⟩ = some (.int .i64 f.k) ∧ W.cell? ⟨bw, offw + j * 9 + 1, none⟩ = some (.int .i64 f.id) ∧ W.cell? ⟨bw, offw + j * 9 + 2, none⟩ = some (.int .i64 f.off) ∧ W.cell? ⟨bw, offw + j * 9 + 3, none⟩ = some (.int .i64 f.a) ∧ W.cell? ⟨bw, offw + j * 9 + 4, none⟩ = some (.int .i64 f.b) ∧ W.cell? ⟨bw, offw + j * 9 + 5, none⟩ = some (.int .i64 f.note) ∧ W.cell? ⟨bw, offw + j * 9 + 6, none⟩ = some (.bool f.fin) ∧ W.cell? ⟨bw, offw + j * 9 + 7, none⟩ = some (.slice f.da f.dn f.dc) ∧ W.cell? ⟨bw, offw + j * 9 + 8, none⟩ = some (.slice f.sa f.sn f.sc)) := fun W hW => by
                    have cc : ∀ t, W.cell? ⟨b7, t, none⟩ = wr.cell? ⟨b7, t, none⟩ := fun t => hW.cell (p := ⟨b7, t, none⟩) hbl7
                    have cd : ∀ t, W.cell? ⟨bw, t, none⟩ = wr.cell? ⟨bw, t, none⟩ := fun t => hW.cell (p := ⟨bw, t, none⟩) hbl
                    exact ⟨(cc _).trans y0, (cc _).trans y1, (cc _).trans y2, (cc _).trans y3, (cc _).trans y4, (cc _).trans y5, (cc _).trans y6, (cc _).trans y7, (cc _).trans y8, (cd _).trans d0, (cd _).trans d1, (cd _).trans d2, (cd _).trans d3, (cd _).trans d4, (cd _).trans d5, (cd _).trans d6, (cd _).trans d7, (cd _).trans d8⟩
                  have hc7I : (n7 : Int) ≤ (c7 : Int) := by omega
                  have hcwI : (n7 : Int) ≤ (cW : Int) := by omega
                  clear d0 d1 d2 d3 d4 d5 d6 d7 d8 y0 y1 y2 y3 y4 y5 y6 y7 y8 r1 r2 r3 r4 hof hog hpl x1 x2 x3 x4 k2' k4' rw1 rw7 hf hg hbl hbl7
                  go_wp2_with fail
                  refine wp_region_noPanic ?_
                  refine wp_region_held_drew (S := (fun W : World => W.cell? ⟨b7, off7 + j * 9, none⟩ = some (.int .i64 f.k) ∧ W.cell? ⟨b7, off7 + j * 9 + 1, none⟩ = some (.int .i64 f.id) ∧ W.cell? ⟨b7, off7 + j * 9 + 2, none⟩ = some (.int .i64 f.off) ∧ W.cell? ⟨b7, off7 + j * 9 + 3, none⟩ = some (.int .i64 f.a) ∧ W.cell? ⟨b7, off7 + j * 9 + 4, none⟩ = some (.int .i64 f.b) ∧ W.cell? ⟨b7, off7 + j * 9 + 5, none⟩ = some (.int .i64 f.note) ∧ W.cell? ⟨b7, off7 + j * 9 + 6, none⟩ = some (.bool f.fin) ∧ W.cell? ⟨b7, off7 + j * 9 + 7, none⟩ = some (.slice gda f.dn gdc) ∧ W.cell? ⟨b7, off7 + j * 9 + 8, none⟩ = some (.slice gsa f.sn gsc) ∧ W.cell? ⟨bw, offw + j * 9, none⟩ = some (.int .i64 f.k) ∧ W.cell? ⟨bw, offw + j * 9 + 1, none⟩ = some (.int .i64 f.id) ∧ W.cell? ⟨bw, offw + j * 9 + 2, none⟩ = some (.int .i64 f.off) ∧ W.cell? ⟨bw, offw + j * 9 + 3, none⟩ = some (.int .i64 f.a) ∧ W.cell? ⟨bw, offw + j * 9 + 4, none⟩ = some (.int .i64 f.b) ∧ W.cell? ⟨bw, offw + j * 9 + 5, none⟩ = some (.int .i64 f.note) ∧ W.cell? ⟨bw, offw + j * 9 + 6, none⟩ = some (.bool f.fin) ∧ W.cell? ⟨bw, offw + j * 9 + 7, none⟩ = some (.slice f.da f.dn f.dc) ∧ W.cell? ⟨bw, offw + j * 9 + 8, none⟩ = some (.slice f.sa f.sn f.sc))) (by kernel_rfl) ?_ (fun hHeld => ?_)
                  · exact HS.out _ (Below.refl _ _).drew
                  refine wpAnyH_take (i := 0) (v := ?_) rfl (by kernel_rfl) (by kernel_rfl) (by kernel_rfl) (fun _ _ _ h => h) (Or.inl ⟨by rfl, ?_⟩) (by assumption) ?_
                  rotate_left
                  · intro w hSw; (try dsimp only at hSw); go_simp; try with_reducible rfl
                  go_simp
                  refine wpAnyH_take (i := 1) (v := ?_) rfl (by kernel_rfl) (by kernel_rfl) (by kernel_rfl) (fun _ _ _ h => h) (Or.inl ⟨by rfl, ?_⟩) (by assumption) ?_
                  rotate_left
                  · intro w hSw; (try dsimp only at hSw); go_simp; try with_reducible rfl
                  go_simp
                  refine wpAnyH_take (i := 2) (v := ?_) rfl (by kernel_rfl) (by kernel_rfl) (by kernel_rfl) (fun _ _ _ h => h) (Or.inl ⟨by rfl, ?_⟩) (by assumption) ?_
                  rotate_left
                  · intro w hSw; (try dsimp only at hSw); go_simp; try with_reducible rfl
                  go_simp
                  refine wpAnyH_take (i := 3) (v := ?_) rfl (by kernel_rfl) (by kernel_rfl) (by kernel_rfl) (fun _ _ _ h => h) (Or.inl ⟨by rfl, ?_⟩) (by assumption) ?_
                  rotate_left
                  · intro w hSw; (try dsimp only at hSw); go_simp; try with_reducible rfl
                  go_simp
                  refine wpAnyH_take (i := 4) (v := ?_) rfl (by kernel_rfl) (by kernel_rfl) (by kernel_rfl) (fun _ _ _ h => h) (Or.inl ⟨by rfl, ?_⟩) (by assumption) ?_
                  rotate_left
                  · intro w hSw; (try dsimp only at hSw); go_simp; try with_reducible rfl
                  go_simp
                  refine wpAnyH_take (i := 5) (v := ?_) rfl (by kernel_rfl) (by kernel_rfl) (by kernel_rfl) (fun _ _ _ h => h) (Or.inl ⟨by rfl, ?_⟩) (by assumption) ?_
                  rotate_left
                  · intro w hSw; (try dsimp only at hSw); go_simp; try with_reducible rfl
                  go_simp
                  refine wpAnyH_take (i := 6) (v := ?_) rfl (by kernel_rfl) (by kernel_rfl) (by kernel_rfl) (fun _ _ _ h => h) (Or.inl ⟨by rfl, ?_⟩) (by assumption) ?_
                  rotate_left
                  · intro w hSw; (try dsimp only at hSw); go_simp; try with_reducible rfl
                  go_simp
                  refine wpAnyH_take (i := 7) (v := ?_) rfl (by kernel_rfl) (by kernel_rfl) (by kernel_rfl) (fun _ _ _ h => h) (Or.inl ⟨by rfl, ?_⟩) (by assumption) ?_
                  rotate_left
                  · intro w hSw; (try dsimp only at hSw); go_simp; try with_reducible rfl
                  go_simp
                  refine wpAnyH_take (i := 8) (v := ?_) rfl (by kernel_rfl) (by kernel_rfl) (by kernel_rfl) (fun _ _ _ h => h) (Or.inl ⟨by rfl, ?_⟩) (by assumption) ?_
                  rotate_left
                  · intro w hSw; (try dsimp only at hSw); go_simp; try with_reducible rfl
                  go_simp
                  refine wpAnyH_take (i := 9) (v := ?_) rfl (by kernel_rfl) (by kernel_rfl) (by kernel_rfl) (fun _ _ _ h => h) (Or.inl ⟨by rfl, ?_⟩) (by assumption) ?_
                  rotate_left
                  · intro w hSw; (try dsimp only at hSw); go_simp; try with_reducible rfl
                  go_simp
                  refine wpAnyH_take (i := 10) (v := ?_) rfl (by kernel_rfl) (by kernel_rfl) (by kernel_rfl) (fun _ _ _ h => h) (Or.inl ⟨by rfl, ?_⟩) (by assumption) ?_
                  rotate_left
                  · intro w hSw; (try dsimp only at hSw); go_simp; try with_reducible rfl
                  go_simp
                  refine wpAnyH_take (i := 11) (v := ?_) rfl (by kernel_rfl) (by kernel_rfl) (by kernel_rfl) (fun _ _ _ h => h) (Or.inl ⟨by rfl, ?_⟩) (by assumption) ?_
                  rotate_left
                  · intro w hSw; (try dsimp only at hSw); go_simp; try with_reducible rfl
                  go_simp
                  refine wpAnyH_take (i := 12) (v := ?_) rfl (by kernel_rfl) (by kernel_rfl) (by kernel_rfl) (fun _ _ _ h => h) (Or.inl ⟨by rfl, ?_⟩) (by assumption) ?_
                  rotate_left
                  · intro w hSw; (try dsimp only at hSw); go_simp; try with_reducible rfl
                  go_simp
                  refine wpAnyH_take (i := 13) (v := ?_) rfl (by kernel_rfl) (by kernel_rfl) (by kernel_rfl) (fun _ _ _ h => h) (Or.inl ⟨by rfl, ?_⟩) (by assumption) ?_
                  rotate_left
                  · intro w hSw; (try dsimp only at hSw); go_simp; try with_reducible rfl
                  go_simp
                  refine wpAnyH_take (i := 14) (v := ?_) rfl (by kernel_rfl) (by kernel_rfl) (by kernel_rfl) (fun _ _ _ h => h) (Or.inl ⟨by rfl, ?_⟩) (by assumption) ?_
                  rotate_left
                  · intro w hSw; (try dsimp only at hSw); go_simp; try with_reducible rfl
                  go_simp
                  refine wpAnyH_take (i := 15) (v := ?_) rfl (by kernel_rfl) (by kernel_rfl) (by kernel_rfl) (fun _ _ _ h => h) (Or.inl ⟨by rfl, ?_⟩) (by assumption) ?_
                  rotate_left
                  · intro w hSw; (try dsimp only at hSw); go_simp; try with_reducible rfl
                  go_simp
                  refine wpAnyH_take (i := 16) (v := ?_) rfl (by kernel_rfl) (by kernel_rfl) (by kernel_rfl) (fun _ _ _ h => h) (Or.inl ⟨by rfl, ?_⟩) (by assumption) ?_
                  rotate_left
                  · intro w hSw; (try dsimp only at hSw); go_simp; try with_reducible rfl
                  go_simp
                  refine wpAnyH_take (i := 17) (v := ?_) rfl (by kernel_rfl) (by kernel_rfl) (by kernel_rfl) (fun _ _ _ h => h) (Or.inl ⟨by rfl, ?_⟩) (by assumption) ?_
                  rotate_left
                  · intro w hSw; (try dsimp only at hSw); go_simp; try with_reducible rfl
                  go_simp
                  refine wpAnyH_take (i := 18) (v := ?_) rfl (by kernel_rfl) (by kernel_rfl) (by kernel_rfl) (fun _ _ _ h => h) (Or.inl ⟨by rfl, ?_⟩) (by assumption) ?_
                  rotate_left
                  · intro w hSw; (try dsimp only at hSw); go_simp; try with_reducible rfl
                  go_simp
                  refine wpAnyH_take (i := 19) (v := ?_) rfl (by kernel_rfl) (by kernel_rfl) (by kernel_rfl) (fun _ _ _ h => h) (Or.inl ⟨by rfl, ?_⟩) (by assumption) ?_
                  rotate_left
                  · intro w hSw; (try dsimp only at hSw); go_simp; try with_reducible rfl
                  go_simp
                  refine wpAnyH_ready (rs := [20]) (by kernel_rfl) (by simp) ?_
                  refine AllReadyH.cons rfl (fun K hK => ?_) AllReadyH.nil
                  go_simp
                  refine (HSM.out _ (Below.refl _ _).drew).mono ?_
                  rintro e w9 ⟨rfl, hb9⟩
                  have HB9 : Hid (Below wr.heap.size wr w9) := (Below.refl _ _).drew.trans hb9
                  clear hb9
                  refine hK.out _ _ ?_ (fun hHeld => ?_)
                  · exact HS.out _ HB9.out
                  clear hK K
                  go_simp
                  refine wpAnyH_take (i := 21) (v := ?_) rfl (by kernel_rfl) (by kernel_rfl) (by kernel_rfl) (fun _ _ _ h => h) (Or.inl ⟨by rfl, ?_⟩) (by assumption) ?_
                  rotate_left
                  · intro w hSw; (try dsimp only at hSw); go_simp; try with_reducible rfl
                  go_simp
                  refine wpAnyH_take (i := 22) (v := ?_) rfl (by kernel_rfl) (by kernel_rfl) (by kernel_rfl) (fun _ _ _ h => h) (Or.inl ⟨by rfl, ?_⟩) (by assumption) ?_
                  rotate_left
                  · intro w hSw; (try dsimp only at hSw); go_simp; try with_reducible rfl
                  go_simp
                  refine wpAnyH_done (by kernel_rfl) ?_ _
                  refine NoPanic.normal ?_
                  have HN' := Lib.hid (HK.out.keep HB9.out)
                  clear HK HS HSM
                  go_wp2_with fail
                  go_roundw
                  case rel => exact ⟨j + 1, by omega, by go_num, HN'.out⟩
                  case measure => simp [intOf]; omega
                · have hltI : ¬ (j : Int) < (n7 : Int) := by omega
                  obtain rfl : n7 = j := by omega
                  have HB := Lib.hid HK.out.car.below
                  clear HK
                  go_wp2_with fail
                  go_ret
                  exact ⟨rfl, HB.out⟩
end Go.Proofs.Ytebfjphmlggacaa.Pv
