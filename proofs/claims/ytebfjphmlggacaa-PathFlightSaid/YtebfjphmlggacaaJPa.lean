/- A path in memory: a round's estimate, a ledger with its packets' frames, a window, in one block. Conditions: as each theorem lists them. -/
import Derived.Test.YtebfjphmlggacaaJLv
import Derived.Test.YtebfjphmlggacaaJLg
import Derived.Test.YtebfjphmlggacaaJRb
import Derived.Test.YtebfjphmlggacaaJCd
import Derived.Test.YtebfjphmlggacaaJCb
set_option linter.unusedSimpArgs false
set_option linter.unusedVariables false

namespace Go.Proofs.Ytebfjphmlggacaa.Pa
open Go Go.RowKit Go.Proofs.Ytebfjphmlggacaa Go.Proofs.Ytebfjphmlggacaa.Sp Go.Proofs.Ytebfjphmlggacaa.Ld

/-- A row of a kind that is neither the block's nor a ledger's stays where these are written. -/
theorem own_other {w w' : World} {base e size n p : Nat} {v : Value} {xs : List Value} {T : TypeId} {cur : Array Value} (h : w.ownsRow base e size v n xs) (hg : w.grownBy w' (some p)) (hp : w.heap[p]? = some (.cells cur T (0, 0))) (hT : e ≠ T) : w'.ownsRow base e size v n xs :=
  h.kept hg (by
    rcases h.2 with ⟨rfl, _⟩ | ⟨g', cap, cu, rfl, _, hh, _⟩
    · exact .inl rfl
    · refine .inr fun e' => ?_
      simp only [Value.ownBlock, Option.some.injEq] at e'
      subst e'
      rw [hp] at hh
      simp only [Option.some.injEq, Obj.cells.injEq, and_true] at hh
      exact hT hh.2.symm)
theorem own_moved {w w' : World} {base e size n lo p : Nat} {v : Value} {xs : List Value} {T : TypeId} {cur : Array Value} (h : w.ownsRow base e size v n xs) (hm : Moved lo p w w') (hp : w.heap[p]? = some (.cells cur T (0, 0))) (hT : e ≠ T) (he : e ≠ 82) : w'.ownsRow base e size v n xs := by
  refine ⟨h.1, ?_⟩
  rcases h.2 with h2 | ⟨g', cap, cu, h2, h3, hh, h4⟩
  · exact .inl h2
  · refine .inr ⟨g', cap, cu, h2, h3, ?_, h4⟩
    refine (hm.kept g' (lt_of_block hh) (fun e' => ?_) (fun row e' => ?_)).trans hh
    · subst e'
      rw [hp] at hh
      simp only [Option.some.injEq, Obj.cells.injEq, and_true] at hh
      exact hT hh.2.symm
    · rw [hh] at e'
      simp only [Option.some.injEq, Obj.cells.injEq, and_true] at e'
      exact he e'.2

/-- A packet's frames: where they lie, what they are. -/
structure FrRow (w : World) (base : Nat) (k : Pk) (qs : List Fq) : Prop where
  len : qs.length = k.fn
  le : k.fn ≤ 1048576
  at64 : -9223372036854775808 ≤ k.at' ∧ k.at' ≤ 9223372036854775807
  own : w.ownsRow base 28 9 (.slice k.fa k.fn k.fc) k.fn (fqs qs)
  each : ∀ q ∈ qs, FqOwn w base q
theorem FrRow.keep {w w' : World} {base : Nat} {k : Pk} {qs : List Fq} (h : FrRow w base k qs) (hb : Below w.heap.size w w') : FrRow w' base k qs :=
  ⟨h.len, h.le, h.at64, own_below h.own hb, fun q hq => (h.each q hq).keep hb⟩
theorem FrRow.other {w w' : World} {base p : Nat} {k : Pk} {qs : List Fq} {T : TypeId} {cur : Array Value} (h : FrRow w base k qs) (hg : w.grownBy w' (some p)) (hp : w.heap[p]? = some (.cells cur T (0, 0))) (h1 : 28 ≠ T) (h2 : 5 ≠ T) (h3 : 29 ≠ T) : FrRow w' base k qs :=
  ⟨h.len, h.le, h.at64, own_other h.own hg hp h1, fun q hq => ⟨own_other (h.each q hq).1 hg hp h2, own_other (h.each q hq).2 hg hp h3⟩⟩
theorem FrRow.moved {w w' : World} {base lo p : Nat} {k : Pk} {qs : List Fq} {T : TypeId} {cur : Array Value} (h : FrRow w base k qs) (hm : Moved lo p w w') (hp : w.heap[p]? = some (.cells cur T (0, 0))) (h1 : 28 ≠ T) (h2 : 5 ≠ T) (h3 : 29 ≠ T) : FrRow w' base k qs :=
  ⟨h.len, h.le, h.at64, own_moved h.own hm hp h1 (by decide), fun q hq => ⟨own_moved (h.each q hq).1 hm hp h2 (by decide), own_moved (h.each q hq).2 hm hp h3 (by decide)⟩⟩
theorem FrRow.base {w : World} {b b' : Nat} {k : Pk} {qs : List Fq} (h : FrRow w b k qs) (hb : b' ≤ b) : FrRow w b' k qs :=
  ⟨h.len, h.le, h.at64, own_base h.own hb, fun q hq => ⟨own_base (h.each q hq).1 hb, own_base (h.each q hq).2 hb⟩⟩

/-- The ledger's block has turned elsewhere. -/
theorem led_cur {w w' : World} {lo p o : Nat} {T : TypeId} {cur cur' : Array Value} {ks : List Pk} {next behind : Nat} (h : Led w lo p o T cur ks next behind) (hg : w.grownBy w' (some p)) (hp : w'.heap[p]? = some (.cells cur' T (0, 0))) (hs : ∀ j, o ≤ j → j < o + 4 → cur'[j]? = cur[j]?) : Led w' lo p o T cur' ks next behind := by
  obtain ⟨os, h1, h2⟩ := h.led
  obtain ⟨A, c, e, hr⟩ := h1.row
  refine ⟨os, ⟨h1.hlo, Nat.lt_of_lt_of_le h1.hhi hg.size, Nat.le_refl _, h1.hT, hp, ⟨A, c, (hs o (by omega) (by omega)).trans e, hr.mono hg.size fun b hb ⟨cs, t, ht, hcs⟩ => hg.block b hb fun e' => ?_⟩, (hs _ (by omega) (by omega)).trans h1.c1, (hs _ (by omega) (by omega)).trans h1.c2, (hs _ (by omega) (by omega)).trans h1.c3, h1.len, h1.nums, h1.beh⟩, h2⟩
  simp only [Option.some.injEq] at e'
  subst e'
  rw [h1.hp] at hcs
  simp only [Option.some.injEq, Obj.cells.injEq, and_true] at hcs
  rcases ht with rfl | rfl
  · exact h1.hT.2 hcs.2
  · exact h1.hT.1 hcs.2

/-- The path, its block p of type T, its blocks at lo or above. -/
structure PathIn (w : World) (lo p : Nat) (s : Rtt.RS) (kq : List (Pk × List Fq)) (next behind : Nat) (wd : Cg.Win) : Prop where
  cur : ∃ cur, Rtt.RtIn w p 0 43 cur s ∧ Led w lo p 4 43 cur (kq.map (·.1)) next behind ∧ Cg.WinIn w p 8 43 cur wd
  good : Rtt.Good s
  ok : Cg.OkW wd
  rows : ∀ x ∈ kq, FrRow w lo x.1 x.2
section
variable {w w' : World} {lo p : Nat} {s : Rtt.RS} {kq : List (Pk × List Fq)} {next behind : Nat} {wd : Cg.Win}
theorem PathIn.lt (h : PathIn w lo p s kq next behind wd) : lo ≤ p ∧ p < w.heap.size := by
  obtain ⟨cur, _, h2, _⟩ := h.cur
  exact h2.lt
theorem PathIn.keep (h : PathIn w lo p s kq next behind wd) (hb : Below w.heap.size w w') : PathIn w' lo p s kq next behind wd := by
  obtain ⟨cur, h1, h2, h3⟩ := h.cur
  have e := hb.block p h2.lt.2
  exact ⟨⟨cur, ⟨e.trans h1.1, h1.2⟩, h2.keep hb, ⟨e.trans h3.hp, h3.c0, h3.c1, h3.c2, h3.c3⟩⟩, h.good, h.ok, fun x hx => (h.rows x hx).keep hb⟩
theorem PathIn.rt {s' : Rtt.RS} (h : PathIn w lo p s kq next behind wd) {cur : Array Value} (h1 : Rtt.RtIn w p 0 43 cur s) (ht : Rtt.RtTo w w' p 0 43 cur s') (hs : Rtt.Good s') : PathIn w' lo p s' kq next behind wd ∧ w.grownBy w' (some p) := by
  obtain ⟨cur0, a1, a2, a3⟩ := h.cur
  obtain rfl : cur0 = cur := by
    have := a1.1.symm.trans h1.1
    simpa using this
  obtain ⟨cur', b1, b2, b3⟩ := ht
  have e : ∀ j, 4 ≤ j → cur'[j]? = cur0[j]? := fun j hj => b2.2 j (by omega)
  exact ⟨⟨⟨cur', b1, led_cur a2 b3 b1.1 fun j hj _ => e j hj, ⟨b1.1, (e _ (by omega)).trans a3.c0, (e _ (by omega)).trans a3.c1, (e _ (by omega)).trans a3.c2, (e _ (by omega)).trans a3.c3⟩⟩, hs, h.ok, fun x hx => (h.rows x hx).other b3 a1.1 (by decide) (by decide) (by decide)⟩, b3⟩
theorem PathIn.win {wd' : Cg.Win} {cur cur' : Array Value} (h : PathIn w lo p s kq next behind wd) (h1 : Cg.WinIn w p 8 43 cur wd) (hw : Cg.WinIn w' p 8 43 cur' wd') (hs : Cg.CurSame 8 cur cur') (hg : w.grownBy w' (some p)) (hok : Cg.OkW wd') : PathIn w' lo p s kq next behind wd' := by
  obtain ⟨cur0, a1, a2, a3⟩ := h.cur
  obtain rfl : cur0 = cur := by
    have := a3.hp.symm.trans h1.hp
    simpa using this
  have e : ∀ j, j < 8 → cur'[j]? = cur0[j]? := fun j hj => hs.2 j (by omega)
  exact ⟨⟨cur', ⟨hw.hp, (e _ (by omega)).trans a1.2.c0, (e _ (by omega)).trans a1.2.c1, (e _ (by omega)).trans a1.2.c2, (e _ (by omega)).trans a1.2.c3⟩, led_cur a2 hg hw.hp fun j _ hj => e j (by omega), hw⟩, h.good, hok, fun x hx => (h.rows x hx).other hg a3.hp (by decide) (by decide) (by decide)⟩
theorem PathIn.led {cur cur' : Array Value} {ks' : List Pk} {kq' : List (Pk × List Fq)} {next' behind' : Nat} (h : PathIn w lo p s kq next behind wd) (h1 : Rtt.RtIn w p 0 43 cur s) (hl : Led w' lo p 4 43 cur' ks' next' behind') (hs : Ld.CurSame 4 cur cur') (hm : Moved lo p w w') (hk : kq'.map (·.1) = ks') (hr : ∀ x ∈ kq', x ∈ kq ∨ FrRow w' lo x.1 x.2) : PathIn w' lo p s kq' next' behind' wd := by
  obtain ⟨cur0, a1, a2, a3⟩ := h.cur
  obtain rfl : cur0 = cur := by
    have := a1.1.symm.trans h1.1
    simpa using this
  have hb := hl.blk
  have e : ∀ j, j < 4 ∨ 8 ≤ j → cur'[j]? = cur0[j]? := fun j hj => hs.2 j (by omega)
  exact ⟨⟨cur', ⟨hb, (e _ (by omega)).trans a1.2.c0, (e _ (by omega)).trans a1.2.c1, (e _ (by omega)).trans a1.2.c2, (e _ (by omega)).trans a1.2.c3⟩, by rw [hk]; exact hl, ⟨hb, (e _ (by omega)).trans a3.c0, (e _ (by omega)).trans a3.c1, (e _ (by omega)).trans a3.c2, (e _ (by omega)).trans a3.c3⟩⟩, h.good, h.ok, fun x hx => by
    rcases hr x hx with h' | h'
    · exact (h.rows x h').moved hm a1.1 (by decide) (by decide) (by decide)
    · exact h'⟩
end
end Go.Proofs.Ytebfjphmlggacaa.Pa
