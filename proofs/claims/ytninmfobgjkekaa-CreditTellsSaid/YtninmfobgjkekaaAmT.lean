/- An empty slice literal, and the bytes of a constant text, over the abstract memory; and that the model's operations do the same. Conditions: as each theorem lists them. -/
import Derived.Test.YtninmfobgjkekaaAm8
set_option linter.unusedSimpArgs false
set_option linter.unusedVariables false
namespace Go.Am
open Go Go.RowKit

variable {P : Program} {G : Nat} {w0 w : World} {c : Ctx} {g : Gh} {S S' : St} {a ac : Act} {o : Oper} {v : Value}

/-- []T{}. -/
def lit0A (P : Program) (S : St) (t : TypeId) : Option (Value × St) :=
  match P.underlying t with
  | some (.slice e) => match P.info? e with
    | some i => match S.alloc i.size [] with
      | some (b, S') => some (.slice (some ⟨b, 0, none⟩) 0 1, S')
      | none => none
    | none => none
  | _ => none

theorem lit0_done (h : Pre G w0 c g S w a ac o) (t : TypeId) (ho : o.op = .buildSlice t 0 #[]) (hv : lit0A P S t = some (v, S')) : Done P G w0 ac o c w v S' := by
  unfold lit0A at hv
  split at hv
  · rename_i e hu
    split at hv
    · rename_i i hi
      split at hv
      · rename_i b S1 hs
        cases hv
        obtain ⟨rfl, c', g', hle, hn, hloc, hes, hcz, hR'⟩ := h.rel.alloc hs (cur := #[]) (e := e) (by simp) (fun j x y hx _ => by simp at hx)
        have hvr := VR.slice (c := c') c.n 0 0 1 0 (by omega) (Nat.le_refl _) (.inr rfl) (by rw [hloc]; simp)
        rw [hloc] at hvr
        refine done_value (s := Instr.buildSlice t 0 #[]) (by simp only [execOp, ho]; simp) ?_ hle hR' hvr
        have h24 : ¬ (0 * i.size > 2 ^ 24) := by omega
        have h0 : 0 * i.size = 0 := Nat.zero_mul _
        simp only [Instr.buildSlice, Sem.run_bind, run_underlying hu, Result.andThen_ok, run_sizeOf hi, if_neg h24, if_pos h0, Sem.run_pure]
        rw [h0]
        have em : (Array.range 0).map (fun x => (#[] : Array Value)[x % (#[] : Array Value).size]!) = #[] := by simp
        rw [em]
        rfl
      · cases hv
    · cases hv
  · cases hv

/-- The family of a block is read alone from here on. -/
def St.mark (S : St) (b : Nat) : Option St :=
  match S.blks.get b with
  | some k => match S.fams.get k.fam with
    | some f => if f.ro = false ∧ k.fam < limit then some { S with fams := S.fams.set depth k.fam { f with ro := true } } else none
    | none => none
  | none => none

theorem heap_freeze (w : World) (x o : Nat) (cur : Array Value) (e : TypeId) (h : w.heap[x]? = some (.cells cur e (0, 0))) (y : Nat) :
    (w.freeze ⟨x, o, none⟩ 1).heap[y]? = if y = x then some (.cells cur e (o, o + 1)) else w.heap[y]? := by
  have e1 : (w.freeze ⟨x, o, none⟩ 1).heap = w.heap.modify x (fun
      | .cells c elem (lo, hi) => .cells c elem (if lo == hi then (o, o + 1) else (min lo o, max hi (o + 1)))
      | o => o) := by
    unfold World.freeze
    rw [if_neg (by decide)]
    rfl
  rw [e1, Array.getElem?_modify]
  by_cases hy : y = x
  · subst hy
    rw [if_pos rfl, if_pos rfl, h]
    rfl
  · rw [if_neg hy, if_neg (fun e => hy e.symm)]

theorem Rel.mark (h : Rel G w0 c g S w) {b : Nat} (hs : S.mark b = some S') :
    b < c.n ∧ ∃ cur e, w.heap[(c.loc b).1]? = some (.cells cur e (0, 0)) ∧ ∃ g', ∀ off, Rel G w0 c g' S' (w.freeze ⟨(c.loc b).1, off, none⟩ 1) := by
  unfold St.mark at hs
  split at hs
  · rename_i k hk
    split at hs
    · rename_i f hf
      split at hs
      · rename_i hc
        obtain ⟨hro, hlim⟩ := hc
        cases hs
        obtain ⟨f', cur, e, fr, ok⟩ := h.blk b k hk
        obtain rfl : f' = f := by have := ok.fam.symm.trans hf; exact Option.some.inj this
        obtain ⟨hown, rfl, hfo⟩ := ok.own hro
        refine ⟨ok.lt, cur, e, ok.heap, ⟨fun y => if g.own y = some k.fam then none else g.own y, g.sh⟩, fun off => ?_⟩
        have hhp := heap_freeze w (c.loc b).1 off cur e ok.heap
        have hsz : (w.freeze ⟨(c.loc b).1, off, none⟩ 1).heap.size = w.heap.size := by
          unfold World.freeze
          rw [if_neg (by decide)]
          simp
        have hx := h.own _ _ hown
        refine ⟨h.n, h.glob, ⟨?_, ?_, ?_, ?_, ?_⟩, fun b2 k2 hk2 => ?_, fun x φ hg => ?_, fun φ f2 hf2 => ?_, fun b2 hb2 => ?_⟩
        · unfold World.freeze; rw [if_neg (by decide)]; exact h.below.os
        · unfold World.freeze; rw [if_neg (by decide)]; exact h.below.tape
        · unfold World.freeze; rw [if_neg (by decide)]; exact h.below.output
        · rw [hsz]; exact h.below.size
        · intro j hj
          rw [hhp, if_neg (by omega)]
          exact h.below.block j hj
        · obtain ⟨f2, cur2, e2, fr2, ok2⟩ := h.blk b2 k2 hk2
          by_cases hfam : k2.fam = k.fam
          · have hf2 : f2 = f' := by
              have := ok2.fam
              rw [hfam, hf] at this
              exact (Option.some.inj this).symm
            subst hf2
            obtain ⟨hown2, hfr2, _⟩ := ok2.own hro
            refine ⟨{ f2 with ro := true }, cur2, e2, if (c.loc b2).1 = (c.loc b).1 then (off, off + 1) else fr2, ok2.lt, ok2.es, by simp [hfam, Fam.get_set _ _ _ hlim], ?_, ok2.size, fun hr => (by cases hr), fun _ => ?_, ok2.fit, ok2.ep, ok2.hw, ok2.cells⟩
            · rw [hhp]
              by_cases hl : (c.loc b2).1 = (c.loc b).1
              · rw [if_pos hl, if_pos hl]
                have := ok2.heap
                rw [hl, ok.heap] at this
                simp only [Option.some.injEq, Obj.cells.injEq] at this
                rw [this.1, this.2.1]
              · rw [if_neg hl, if_neg hl]
                exact ok2.heap
            · show (if g.own (c.loc b2).1 = some k.fam then none else g.own (c.loc b2).1) = none
              rw [if_pos (by rw [hown2, hfam])]
          · have hl : (c.loc b2).1 ≠ (c.loc b).1 := fun e => by
              cases hr : f2.ro with
              | false =>
                have := (ok2.own hr).1
                rw [e, hown] at this
                exact hfam (Option.some.inj this).symm
              | true =>
                have := ok2.ro hr
                rw [e, hown] at this
                cases this
            refine ⟨f2, cur2, e2, fr2, ok2.lt, ok2.es, by simp [Fam.get_set _ _ _ hlim, hfam, ok2.fam], by rw [hhp, if_neg hl]; exact ok2.heap, ok2.size, fun hr => ?_, fun hr => ?_, ok2.fit, ok2.ep, ok2.hw, ok2.cells⟩
            · obtain ⟨h1, h2, h3⟩ := ok2.own hr
              refine ⟨?_, h2, h3⟩
              show (if g.own (c.loc b2).1 = some k.fam then none else g.own (c.loc b2).1) = _
              rw [if_neg (by rw [h1]; simpa using hfam)]
              exact h1
            · show (if g.own (c.loc b2).1 = some k.fam then none else g.own (c.loc b2).1) = none
              rw [ok2.ro hr]
              simp
        · have hg' : g.own x = some φ := by
            simp only at hg
            split at hg
            · cases hg
            · exact hg
          obtain ⟨h1, h2, h3⟩ := h.own x φ hg'
          exact ⟨h1, by rw [hsz]; exact h2, h3⟩
        · simp only at hf2
          rw [Fam.get_set _ _ _ hlim] at hf2
          split at hf2
          · rename_i e1; rw [e1]; exact h.fam _ _ hf
          · exact h.fam _ _ hf2
        · rw [hsz]; exact h.all b2 hb2
      · cases hs
    · cases hs
  · cases hs

/-- The conversion of a literal row of bytes to its own type, which stands behind a constant text's bytes. -/
def markA (P : Program) (S : St) (s d : TypeId) (x : Value) : Option St :=
  if s = d then match P.underlying s, x with
    | some (.slice e), .slice (some ⟨b, _, none⟩) n _ => match P.underlying e with
      | some (.int .u8) => if n ≠ 0 then S.mark b else none
      | _ => none
    | _, _ => none
  else none

theorem mark_done (h : Pre G w0 c g S w a ac o) (s d : TypeId) (x : Operand) (ho : o.op = .convert s d x) (hv : markA P S s d (a.eval x) = some S') : Done P G w0 ac o c w (a.eval x) S' := by
  have hc := h.ev (x := x) (by simp [ho, Op.operands])
  unfold markA at hv
  split at hv
  · rename_i hsd
    subst hsd
    split at hv
    · rename_i e b off n k hu hx
      split at hv
      · rename_i he
        split at hv
        · rename_i hn0
          rw [hx] at hc ⊢
          obtain ⟨hb, cur, e', hheap, g', hR'⟩ := h.rel.mark hv
          generalize hux : ac.eval x = ux at hc
          cases hc with
          | slice _ _ _ _ m hbn hn hk hcap =>
            have hsh : w.shape? (c.loc b).1 = some (e', cur.size) := by unfold World.shape?; rw [hheap]
            refine done_value (s := convert s s (ac.eval x)) (u := .slice (some ⟨(c.loc b).1, (c.loc b).2 + off, none⟩) n m) (by simp only [execOp, ho]) ?_ (Ctx.le.refl _) (hR' cur.size) (.slice b off n k m hbn hn hk hcap)
            rw [hux]
            simp [convert, run_underlying hu, run_underlying he, markStringish, hsh]
          | empty => exact absurd rfl hn0
        · cases hv
      · cases hv
    · cases hv
  · cases hv

end Go.Am
