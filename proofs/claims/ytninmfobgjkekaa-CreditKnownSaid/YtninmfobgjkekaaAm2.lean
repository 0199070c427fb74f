/- The abstract memory's steps, and that each is met by a step of the model's memory. Conditions: as each theorem lists them. -/
import Derived.Test.YtninmfobgjkekaaAm1
set_option linter.unusedSimpArgs false
set_option linter.unusedVariables false
namespace Go.Am
open Go Go.RowKit

def St.live (S : St) (b : Nat) : Option Blk :=
  match S.blks.get b with
  | some k => match S.fams.get k.fam with
    | some f => if f.ep = k.ep then some k else none
    | none => none
  | none => none

def St.rd (S : St) (b off n : Nat) : Option (List Value) :=
  match S.live b with
  | some k => if off + n ≤ k.cells.length then some ((k.cells.drop off).take n) else none
  | none => none

/-- A value that one cell holds. -/
def one (v : Value) : Bool := match v with | .agg _ | .tuple _ => false | _ => true

def St.alloc (S : St) (sz : Nat) (cells : List Value) : Option (Nat × St) :=
  if S.nb < limit ∧ S.nf < limit then
    some (S.nb, { nb := S.nb + 1, blks := S.blks.set depth S.nb ⟨sz, cells, S.nf, 0, 0⟩, nf := S.nf + 1, fams := S.fams.set depth S.nf ⟨0, cells.length, false⟩ })
  else none

def St.wr (S : St) (b off : Nat) (vs : List Value) : Option St :=
  match S.blks.get b with
  | some k => match S.fams.get k.fam with
    | some f =>
      if f.ep = k.ep ∧ f.ro = false ∧ off + vs.length ≤ k.cells.length ∧ vs.all one = true ∧ b < limit ∧ k.fam < limit then
        some { S with blks := S.blks.set depth b { k with cells := k.cells.take off ++ vs ++ k.cells.drop (off + vs.length), ep := f.ep + 1 },
                      fams := S.fams.set depth k.fam { f with ep := f.ep + 1, hw := k.fo + k.cells.length } }
      else none
    | none => none
  | none => none

/-- Behind cells 'off' to 'off + m' of block b stand 'news', in memory that may be that block's own: the new block. -/
def St.grow (S : St) (b off m : Nat) (news : List Value) : Option (Nat × St) :=
  match S.blks.get b with
  | some k => match S.fams.get k.fam with
    | some f =>
      if f.ep = k.ep ∧ f.ro = false ∧ off + m ≤ k.cells.length ∧ news.all one = true ∧ S.nb < limit ∧ k.fam < limit then
        let cells := (k.cells.drop off).take m ++ news
        let ep := if k.fo + off + m < f.hw then f.ep + 1 else f.ep
        some (S.nb, { S with nb := S.nb + 1, blks := S.blks.set depth S.nb ⟨k.sz, cells, k.fam, ep, k.fo + off⟩,
                             fams := S.fams.set depth k.fam { f with ep := ep, hw := k.fo + off + cells.length } })
      else none
    | none => none
  | none => none

/-- Ghosts: to which family a block of the model's belongs, and at which place of its family its first cell stands. -/
structure Gh where
  own : Nat → Option Nat
  sh : Nat → Nat

/-- What is said of one abstract block. -/
structure BlkOK (c : Ctx) (g : Gh) (S : St) (w : World) (b : Nat) (k : Blk) (f : Fam) (cur : Array Value) (e : TypeId) (fr : Nat × Nat) : Prop where
  lt : b < c.n
  es : c.es b = k.sz
  fam : S.fams.get k.fam = some f
  heap : w.heap[(c.loc b).1]? = some (.cells cur e fr)
  size : cur.size = c.cz (c.loc b).1
  own : f.ro = false → g.own (c.loc b).1 = some k.fam ∧ fr = (0, 0) ∧ (c.loc b).2 + g.sh (c.loc b).1 = k.fo
  ro : f.ro = true → g.own (c.loc b).1 = none
  fit : (c.loc b).2 + k.cells.length ≤ cur.size
  ep : k.ep ≤ f.ep
  hw : k.ep = f.ep → k.fo + k.cells.length ≤ f.hw
  cells : k.ep = f.ep → ∀ i v, k.cells[i]? = some v → ∃ u, cur[(c.loc b).2 + i]? = some u ∧ VR c v u

/-- The abstract memory stands for the model's: G: how many package-level variables there are; w0: the world as the call began. -/
structure Rel (G : Nat) (w0 : World) (c : Ctx) (g : Gh) (S : St) (w : World) : Prop where
  n : S.nb = c.n
  glob : G ≤ c.n ∧ ∀ i, i < G → c.loc i = (i, 0)
  below : Below w0.heap.size w0 w
  blk : ∀ b k, S.blks.get b = some k → ∃ f cur e fr, BlkOK c g S w b k f cur e fr
  own : ∀ x φ, g.own x = some φ → w0.heap.size ≤ x ∧ x < w.heap.size ∧ φ < S.nf
  fam : ∀ φ f, S.fams.get φ = some f → φ < S.nf
  all : ∀ b, b < c.n → (c.loc b).1 < w.heap.size

theorem Rel.live {G : Nat} {w0 w : World} {c : Ctx} {g : Gh} {S : St} (h : Rel G w0 c g S w) {b : Nat} {k : Blk} (hl : S.live b = some k) :
    ∃ f cur e fr, BlkOK c g S w b k f cur e fr ∧ k.ep = f.ep ∧ S.blks.get b = some k := by
  unfold St.live at hl
  split at hl
  · rename_i k' hk
    obtain ⟨f, cur, e, fr, ok⟩ := h.blk b k' hk
    split at hl
    · rename_i f' hf
      split at hl
      · rename_i he
        cases hl
        have := ok.fam.symm.trans hf
        cases this
        exact ⟨f, cur, e, fr, ok, he.symm, hk⟩
      · cases hl
    · cases hl
  · cases hl

theorem cell_of (w : World) (g i : Nat) (cur : Array Value) (e : TypeId) (fr : Nat × Nat) (h : w.heap[g]? = some (.cells cur e fr)) : w.cell? ⟨g, i, none⟩ = cur[i]? := by
  simp [World.cell?, h]

theorem Rel.rd {G : Nat} {w0 w : World} {c : Ctx} {g : Gh} {S : St} (h : Rel G w0 c g S w) {b off n : Nat} {vs : List Value} (hr : S.rd b off n = some vs) :
    b < c.n ∧ vs.length = n ∧ ∃ us : List Value, us.length = n ∧ (∀ (j : Nat) (u : Value), us[j]? = some u → w.cell? ⟨(c.loc b).1, (c.loc b).2 + off + j, none⟩ = some u) ∧
      ∀ (j : Nat) (v u : Value), vs[j]? = some v → us[j]? = some u → VR c v u := by
  unfold St.rd at hr
  split at hr
  · rename_i k hk
    split at hr
    · rename_i hn
      cases hr
      obtain ⟨f, cur, e, fr, ok, he, _⟩ := h.live hk
      have hlen : ((k.cells.drop off).take n).length = n := by rw [List.length_take, List.length_drop]; omega
      refine ⟨ok.lt, hlen, (List.range n).map (fun j => cur[(c.loc b).2 + off + j]?.getD undef), by simp, ?_, ?_⟩
      · intro j u hu
        rw [List.getElem?_map] at hu
        have hj : j < n := by
          rcases Nat.lt_or_ge j n with h | h
          · exact h
          · rw [List.getElem?_eq_none (by simpa using h)] at hu; cases hu
        rw [List.getElem?_eq_getElem (by simpa using hj)] at hu
        simp only [List.getElem_range, Option.map_some, Option.some.injEq] at hu
        obtain ⟨v, hv⟩ : ∃ v, k.cells[off + j]? = some v := ⟨_, List.getElem?_eq_getElem (show off + j < k.cells.length by omega)⟩
        obtain ⟨u', hu', _⟩ := ok.cells he _ _ hv
        rw [cell_of w _ _ cur e fr ok.heap]
        rw [← Nat.add_assoc] at hu'
        rw [hu'] at hu ⊢
        simp only [Option.getD_some] at hu
        rw [hu]
      · intro j v u hv hu
        rw [List.getElem?_map] at hu
        have hj : j < n := by
          rcases Nat.lt_or_ge j n with h | h
          · exact h
          · rw [List.getElem?_eq_none (by simpa using h)] at hu; cases hu
        rw [List.getElem?_eq_getElem (by simpa using hj)] at hu
        simp only [List.getElem_range, Option.map_some, Option.some.injEq] at hu
        rw [List.getElem?_take, if_pos hj, List.getElem?_drop] at hv
        obtain ⟨u', hu', hvr⟩ := ok.cells he _ _ hv
        rw [← Nat.add_assoc] at hu'
        rw [hu'] at hu
        simp only [Option.getD_some] at hu
        rw [← hu]
        exact hvr
    · cases hr
  · cases hr

theorem lim {b : Nat} (h : b < limit) : b + 1 < 2 ^ depth := by unfold limit at h; unfold depth; omega

theorem Blk.get_set (t : Trie Blk) {i : Nat} (x : Blk) (j : Nat) (h : i < limit) : (t.set depth i x).get j = if j = i then some x else t.get j := Trie.get_set _ _ _ _ _ (lim h)
theorem Fam.get_set (t : Trie Fam) {i : Nat} (x : Fam) (j : Nat) (h : i < limit) : (t.set depth i x).get j = if j = i then some x else t.get j := Trie.get_set _ _ _ _ _ (lim h)

/-- What a new block of the model's does to the context. -/
def Ctx.push (c : Ctx) (x o z s : Nat) : Ctx :=
  { n := c.n + 1, loc := fun b => if b = c.n then (x, o) else c.loc b, cz := fun y => if y = x then z else c.cz y, es := fun b => if b = c.n then s else c.es b }

theorem Ctx.push_le (c : Ctx) (x o z s : Nat) (h : ∀ b, b < c.n → (c.loc b).1 = x → c.cz x = z) : c.le (c.push x o z s) := by
  refine ⟨by simp [Ctx.push], fun b hb => ?_, fun b hb => ?_, fun b hb => ?_⟩
  · simp [Ctx.push, Nat.ne_of_lt hb]
  · simp only [Ctx.push]
    split
    · rename_i e; rw [e]; exact (h b hb e).symm
    · rfl
  · simp [Ctx.push, Nat.ne_of_lt hb]

/-- Reading goes on under a longer context, in a world that has kept the block's cells. -/
theorem BlkOK.keep {c c' : Ctx} {g g' : Gh} {S S' : St} {w w' : World} {b : Nat} {k : Blk} {f : Fam} {cur : Array Value} {e : TypeId} {fr : Nat × Nat} (h : BlkOK c g S w b k f cur e fr)
    (hc : c.le c') (hf : S'.fams.get k.fam = some f) (hh : w'.heap[(c.loc b).1]? = w.heap[(c.loc b).1]?)
    (ho : g'.own (c.loc b).1 = g.own (c.loc b).1 ∧ g'.sh (c.loc b).1 = g.sh (c.loc b).1) : BlkOK c' g' S' w' b k f cur e fr := by
  have hl := hc.loc b h.lt
  refine ⟨Nat.lt_of_lt_of_le h.lt hc.n, (hc.es b h.lt).trans h.es, hf, by rw [hl, hh]; exact h.heap, by rw [hl, hc.cz b h.lt]; exact h.size, fun hr => ?_, fun hr => by rw [hl, ho.1]; exact h.ro hr, by rw [hl]; exact h.fit, h.ep, h.hw, fun he i v hv => ?_⟩
  · obtain ⟨h1, h2, h3⟩ := h.own hr
    rw [hl, ho.2, ho.1]
    exact ⟨h1, h2, h3⟩
  · obtain ⟨u, hu, hvr⟩ := h.cells he i v hv
    exact ⟨u, by rw [hl]; exact hu, hvr.mono hc⟩

theorem Rel.lt_heap {G : Nat} {w0 w : World} {c : Ctx} {g : Gh} {S : St} (h : Rel G w0 c g S w) {b : Nat} {k : Blk} (hk : S.blks.get b = some k) : (c.loc b).1 < w.heap.size := by
  obtain ⟨f, cur, e, fr, ok⟩ := h.blk b k hk
  exact (Array.getElem?_eq_some_iff.1 ok.heap).1

theorem Rel.drew {G : Nat} {w0 w : World} {c : Ctx} {g : Gh} {S : St} (h : Rel G w0 c g S w) : Rel G w0 c g S w.drew :=
  ⟨h.n, h.glob, h.below.drew, fun b k hk => by
    obtain ⟨f, cur, e, fr, ok⟩ := h.blk b k hk
    exact ⟨f, cur, e, fr, ok.keep (Ctx.le.refl _) ok.fam rfl ⟨rfl, rfl⟩⟩, h.own, h.fam, h.all⟩

/-- A new block, in a family of its own. -/
theorem Rel.alloc {G : Nat} {w0 w : World} {c : Ctx} {g : Gh} {S S' : St} (h : Rel G w0 c g S w) {sz b : Nat} {cells : List Value} (hs : S.alloc sz cells = some (b, S'))
    {cur : Array Value} {e : TypeId} (hcur : cells.length ≤ cur.size) (hv : ∀ (i : Nat) (v u : Value), cells[i]? = some v → cur[i]? = some u → VR c v u) :
    b = c.n ∧ ∃ c' g', c.le c' ∧ c'.n = c.n + 1 ∧ c'.loc c.n = (w.heap.size, 0) ∧ c'.es c.n = sz ∧ c'.cz w.heap.size = cur.size ∧ Rel G w0 c' g' S' (w.alloc (.cells cur e)) := by
  unfold St.alloc at hs
  split at hs
  · rename_i hlim
    cases hs
    have hn := h.n
    have hle : c.le (c.push w.heap.size 0 cur.size sz) := Ctx.push_le _ _ _ _ _ fun b hb e => absurd (h.all b hb) (by omega)
    refine ⟨hn, c.push w.heap.size 0 cur.size sz, ⟨fun y => if y = w.heap.size then some S.nf else g.own y, fun y => if y = w.heap.size then 0 else g.sh y⟩, hle, rfl, by simp [Ctx.push], by simp [Ctx.push], by simp [Ctx.push], ?_⟩
    refine ⟨by simp [Ctx.push, hn], ⟨Nat.le_trans h.glob.1 hle.n, fun i hi => (hle.loc i (Nat.lt_of_lt_of_le hi h.glob.1)).trans (h.glob.2 i hi)⟩, h.below.alloc h.below.size _, fun b k hk => ?_, fun x φ hx => ?_, fun φ f hf => ?_, fun b hb => ?_⟩
    · rw [Blk.get_set _ _ _ hlim.1] at hk
      by_cases hb : b = S.nb
      · rw [if_pos hb] at hk
        cases hk
        have hbn : b = c.n := hb.trans hn
        refine ⟨⟨0, cells.length, false⟩, cur, e, (0, 0), ?_⟩
        refine ⟨by simp [Ctx.push, hbn], by simp [Ctx.push, hbn], by simp [Fam.get_set _ _ _ hlim.2], by simp only [Ctx.push, hbn, if_true]; exact heap_alloc_new w _, by simp [Ctx.push, hbn], fun _ => by simp [Ctx.push, hbn], fun hr => (by cases hr), by simpa [Ctx.push, hbn] using hcur, Nat.le_refl _, fun _ => by simp, fun _ i v hi => ?_⟩
        have hil : i < cur.size := Nat.lt_of_lt_of_le (List.getElem?_eq_some_iff.1 hi).1 hcur
        exact ⟨cur[i], by simp [Ctx.push, hbn, Array.getElem?_eq_getElem hil], (hv i v cur[i] hi (Array.getElem?_eq_getElem hil)).mono hle⟩
      · rw [if_neg hb] at hk
        obtain ⟨f, cur', e', fr, ok⟩ := h.blk b k hk
        have hlt := h.lt_heap hk
        have hfn : k.fam ≠ S.nf := Nat.ne_of_lt (h.fam _ _ ok.fam)
        refine ⟨f, cur', e', fr, ok.keep hle (by simp [Fam.get_set _ _ _ hlim.2, hfn, ok.fam]) (heap_alloc_old w _ _ hlt) ?_⟩
        have : (c.loc b).1 ≠ w.heap.size := by omega
        simp [this]
    · simp only at hx
      split at hx
      · rename_i e0
        cases hx
        refine ⟨by rw [e0]; exact h.below.size, by simp [e0], by simp⟩
      · obtain ⟨h1, h2, h3⟩ := h.own x φ hx
        exact ⟨h1, by simp; omega, by simp; omega⟩
    · simp only at hf ⊢
      rw [Fam.get_set _ _ _ hlim.2] at hf
      split at hf
      · omega
      · have := h.fam φ f hf; omega
    · simp only [Ctx.push, World.size_alloc] at hb ⊢
      split
      · simp
      · exact Nat.lt_succ_of_lt (h.all b (by omega))
  · cases hs

theorem take_drop_get {α : Type} (xs ys : List α) (off j : Nat) (hoff : off + ys.length ≤ xs.length) :
    (xs.take off ++ ys ++ xs.drop (off + ys.length))[j]? = if off ≤ j ∧ j < off + ys.length then ys[j - off]? else xs[j]? := by
  rw [List.append_assoc, List.getElem?_append]
  have hl : (xs.take off).length = off := by rw [List.length_take]; omega
  rw [hl]
  by_cases h1 : j < off
  · rw [if_pos h1, if_neg (by omega), List.getElem?_take, if_pos h1]
  · rw [if_neg h1, List.getElem?_append]
    by_cases h2 : j - off < ys.length
    · rw [if_pos h2, if_pos (by omega)]
    · rw [if_neg h2, if_neg (by omega), List.getElem?_drop]
      congr 1
      omega

/-- The cells of a block of the model's, some of them written. -/
def put (cur : Array Value) (off : Nat) (us : List Value) : Array Value := (cur.toList.take off ++ us ++ cur.toList.drop (off + us.length)).toArray

theorem put_get (cur : Array Value) (off : Nat) (us : List Value) (j : Nat) (h : off + us.length ≤ cur.size) :
    (put cur off us)[j]? = if off ≤ j ∧ j < off + us.length then us[j - off]? else cur[j]? := by
  unfold put
  rw [List.getElem?_toArray, take_drop_get _ _ _ _ (by simpa using h)]
  simp
theorem put_size (cur : Array Value) (off : Nat) (us : List Value) (h : off + us.length ≤ cur.size) : (put cur off us).size = cur.size := by
  unfold put
  simp only [List.size_toArray, List.length_append, List.length_take, List.length_drop, Array.length_toList]
  omega

/-- A block's cells are written: all others of its family are given up. -/
theorem Rel.wr {G : Nat} {w0 w : World} {c : Ctx} {g : Gh} {S S' : St} (h : Rel G w0 c g S w) {b off : Nat} {vs us : List Value} (hs : S.wr b off vs = some S') (hl : us.length = vs.length)
    (hv : ∀ (i : Nat) (v u : Value), vs[i]? = some v → us[i]? = some u → VR c v u) :
    ∃ cur e, w.heap[(c.loc b).1]? = some (.cells cur e (0, 0)) ∧ (c.loc b).2 + off + us.length ≤ cur.size ∧ b < c.n ∧ vs.all one = true ∧
      Rel G w0 c g S' (w.setRow (c.loc b).1 (put cur ((c.loc b).2 + off) us)) := by
  unfold St.wr at hs
  split at hs
  · rename_i k hk
    split at hs
    · rename_i f hf
      split at hs
      · rename_i hcnd
        obtain ⟨he, hro, hoff, hone, hbl, hfl⟩ := hcnd
        cases hs
        obtain ⟨f', cur, e, fr, ok⟩ := h.blk b k hk
        have := ok.fam.symm.trans hf
        cases this
        obtain ⟨ho, rfl, hsh⟩ := ok.own hro
        have hfit : (c.loc b).2 + off + us.length ≤ cur.size := by have := ok.fit; omega
        have hheap := setRow_heap w (c.loc b).1 cur (put cur ((c.loc b).2 + off) us) e (0, 0) ok.heap
        have hlen : (k.cells.take off ++ vs ++ k.cells.drop (off + vs.length)).length = k.cells.length := by
          simp only [List.length_append, List.length_take, List.length_drop]; omega
        refine ⟨cur, e, ok.heap, hfit, ok.lt, hone, ?_⟩
        have hown := h.own _ _ ho
        refine ⟨h.n, h.glob, ⟨h.below.os, h.below.tape, h.below.output, by simpa using h.below.size, fun i hi => (setRow_other w _ i _ (by omega)).trans (h.below.block i hi)⟩, fun b' k' hk' => ?_,
          fun x φ hx => by simpa using h.own x φ hx, fun φ f' hf' => ?_, fun b' hb' => by simpa using h.all b' hb'⟩
        · simp only at hk'
          rw [Blk.get_set _ _ _ hbl] at hk'
          by_cases hbb : b' = b
          · rw [if_pos hbb] at hk'
            cases hk'
            subst hbb
            refine ⟨{ f with ep := f.ep + 1, hw := k.fo + k.cells.length }, _, e, (0, 0), ok.lt, ok.es, by simp [Fam.get_set _ _ _ hfl], hheap, by rw [put_size _ _ _ hfit]; exact ok.size, fun _ => ⟨ho, rfl, hsh⟩, fun hr => by simp [hro] at hr,
              by rw [put_size _ _ _ hfit, hlen]; exact ok.fit, Nat.le_refl _, fun _ => by simp only [hlen]; omega, fun _ i v hi => ?_⟩
            simp only at hi
            rw [take_drop_get _ _ _ _ hoff] at hi
            rw [put_get _ _ _ _ hfit]
            split at hi
            · rename_i hin
              rw [if_pos (by omega), show (c.loc b').2 + i - ((c.loc b').2 + off) = i - off by omega]
              have hil : i - off < us.length := by omega
              exact ⟨us[i - off], List.getElem?_eq_getElem hil, hv _ _ _ hi (List.getElem?_eq_getElem hil)⟩
            · rename_i hin
              rw [if_neg (by omega)]
              exact ok.cells he.symm i v hi
          · rw [if_neg hbb] at hk'
            obtain ⟨f', cur', e', fr', ok'⟩ := h.blk b' k' hk'
            by_cases hff : k'.fam = k.fam
            · have hf2 : f' = f := by
                have h1 := ok'.fam
                rw [hff, hf] at h1
                cases h1; rfl
              subst hf2
              have hep := ok'.ep
              by_cases hg : (c.loc b').1 = (c.loc b).1
              · have h1 := ok'.heap
                rw [hg, ok.heap] at h1
                cases h1
                refine ⟨{ f' with ep := f'.ep + 1, hw := k.fo + k.cells.length }, put cur ((c.loc b).2 + off) us, e, (0, 0), ok'.lt, ok'.es, by simp [Fam.get_set _ _ _ hfl, hff], by rw [hg]; exact hheap, by rw [put_size _ _ _ hfit]; exact ok'.size, ok'.own, fun hr => by simp [hro] at hr,
                  by rw [put_size _ _ _ hfit]; exact ok'.fit, by simp only; omega, fun hr => by simp only at hr; omega, fun hr => by simp only at hr; omega⟩
              · refine ⟨{ f' with ep := f'.ep + 1, hw := k.fo + k.cells.length }, cur', e', fr', ok'.lt, ok'.es, by simp [Fam.get_set _ _ _ hfl, hff], by rw [setRow_other _ _ _ _ hg]; exact ok'.heap, ok'.size, ok'.own, fun hr => by simp [hro] at hr,
                  ok'.fit, by simp only; omega, fun hr => by simp only at hr; omega, fun hr => by simp only at hr; omega⟩
            · have hg : (c.loc b').1 ≠ (c.loc b).1 := fun e0 => by
                by_cases hr : f'.ro = false
                · have h1 := (ok'.own hr).1
                  rw [e0, ho] at h1
                  exact hff (Option.some.inj h1).symm
                · have h1 := ok'.ro (by simpa using hr)
                  rw [e0, ho] at h1
                  cases h1
              exact ⟨f', cur', e', fr', ok'.keep (Ctx.le.refl _) (by simp [Fam.get_set _ _ _ hfl, hff, ok'.fam]) (setRow_other _ _ _ _ hg) ⟨rfl, rfl⟩⟩
        · simp only at hf'
          rw [Fam.get_set _ _ _ hfl] at hf'
          split at hf'
          · rename_i e0; rw [e0]; exact h.fam _ _ hf
          · exact h.fam _ _ hf'
      · cases hs
    · cases hs
  · cases hs


/-- The cells that stand behind some of a block's cells, in the model: in its own memory, where there is room, or in a new block. -/
theorem Rel.grow_in {G : Nat} {w0 w : World} {c : Ctx} {g : Gh} {S S' : St} (h : Rel G w0 c g S w) {b b1 off m : Nat} {vs us : List Value} (hs : S.grow b off m vs = some (b1, S')) (hl : us.length = vs.length)
    (hv : ∀ (i : Nat) (v u : Value), vs[i]? = some v → us[i]? = some u → VR c v u) (hroom : (c.loc b).2 + off + m + us.length ≤ c.cz (c.loc b).1) :
    b1 = c.n ∧ vs.all one = true ∧ b < c.n ∧ ∃ cur e, w.heap[(c.loc b).1]? = some (.cells cur e (0, 0)) ∧ cur.size = c.cz (c.loc b).1 ∧
      ∃ c' g', c.le c' ∧ c'.n = c.n + 1 ∧ c'.loc c.n = ((c.loc b).1, (c.loc b).2 + off) ∧ c'.es c.n = c.es b ∧ (∀ x, c'.cz x = c.cz x) ∧
        Rel G w0 c' g' S' (w.setRow (c.loc b).1 (put cur ((c.loc b).2 + off + m) us)) := by
  unfold St.grow at hs
  split at hs
  · rename_i k hk
    split at hs
    · rename_i f hf
      split at hs
      · rename_i hcnd
        obtain ⟨he, hro, hoff, hone, hbl, hfl⟩ := hcnd
        cases hs
        obtain ⟨f', cur, e, fr, ok⟩ := h.blk b k hk
        have := ok.fam.symm.trans hf
        cases this
        obtain ⟨ho, rfl, hsh⟩ := ok.own hro
        have hn := h.n
        have hsz := ok.size
        have hfit : (c.loc b).2 + off + m + us.length ≤ cur.size := by omega
        have hheap := setRow_heap w (c.loc b).1 cur (put cur ((c.loc b).2 + off + m) us) e (0, 0) ok.heap
        have hll : ((k.cells.drop off).take m).length = m := by rw [List.length_take, List.length_drop]; omega
        have hlen : ((k.cells.drop off).take m ++ vs).length = m + us.length := by rw [List.length_append, hll, hl]
        have hle : c.le (c.push (c.loc b).1 ((c.loc b).2 + off) (c.cz (c.loc b).1) (c.es b)) := Ctx.push_le _ _ _ _ _ fun _ _ _ => rfl
        have hown := h.own _ _ ho
        have hhw := ok.hw he.symm
        refine ⟨hn, hone, ok.lt, cur, e, ok.heap, hsz, c.push (c.loc b).1 ((c.loc b).2 + off) (c.cz (c.loc b).1) (c.es b), g, hle, rfl, by simp [Ctx.push], by simp [Ctx.push], fun x => by simp only [Ctx.push]; split <;> simp_all, ?_⟩
        refine ⟨by simp [Ctx.push, hn], ⟨Nat.le_trans h.glob.1 hle.n, fun i hi => (hle.loc i (Nat.lt_of_lt_of_le hi h.glob.1)).trans (h.glob.2 i hi)⟩,
          ⟨h.below.os, h.below.tape, h.below.output, by simpa using h.below.size, fun i hi => (setRow_other w _ i _ (by omega)).trans (h.below.block i hi)⟩, fun b' k' hk' => ?_,
          fun x φ hx => by simpa using h.own x φ hx, fun φ f' hf' => ?_, fun b' hb' => ?_⟩
        · simp only at hk'
          rw [Blk.get_set _ _ _ hbl] at hk'
          by_cases hbb : b' = S.nb
          · rw [if_pos hbb] at hk'
            cases hk'
            have hbn : b' = c.n := hbb.trans hn
            refine ⟨{ f with ep := if k.fo + off + m < f.hw then f.ep + 1 else f.ep, hw := k.fo + off + ((k.cells.drop off).take m ++ vs).length }, put cur ((c.loc b).2 + off + m) us, e, (0, 0), by simp [Ctx.push, hbn], by simp [Ctx.push, hbn, ok.es], by simp [Fam.get_set _ _ _ hfl],
              by simp only [Ctx.push, hbn, if_true]; exact hheap, by simp [Ctx.push, hbn, put_size _ _ _ hfit, hsz], fun _ => ⟨by simp [Ctx.push, hbn, ho], rfl, by simp only [Ctx.push, hbn, if_true]; omega⟩, fun hr => by simp [hro] at hr,
              by simp only [Ctx.push, hbn, if_true, put_size _ _ _ hfit, hlen]; omega, Nat.le_refl _, fun _ => Nat.le_refl _, fun _ i v hi => ?_⟩
            simp only at hi
            simp only [Ctx.push, hbn, if_true]
            rw [List.getElem?_append, hll] at hi
            rw [put_get _ _ _ _ hfit]
            split at hi
            · rename_i him
              rw [List.getElem?_take, if_pos him, List.getElem?_drop] at hi
              obtain ⟨u, hu, hvr⟩ := ok.cells he.symm _ _ hi
              rw [if_neg (by omega)]
              exact ⟨u, by rw [Nat.add_assoc]; exact hu, hvr.mono hle⟩
            · rename_i him
              have hil : i - m < vs.length := (List.getElem?_eq_some_iff.1 hi).1
              rw [if_pos (by omega), show (c.loc b).2 + off + i - ((c.loc b).2 + off + m) = i - m by omega]
              exact ⟨us[i - m], List.getElem?_eq_getElem (by omega), (hv _ _ _ hi (List.getElem?_eq_getElem (by omega))).mono hle⟩
          · rw [if_neg hbb] at hk'
            obtain ⟨f', cur', e', fr', ok'⟩ := h.blk b' k' hk'
            by_cases hff : k'.fam = k.fam
            · have hf2 : f' = f := by
                have h1 := ok'.fam
                rw [hff, hf] at h1
                cases h1; rfl
              subst hf2
              have hep := ok'.ep
              have hlt' := hle.loc b' ok'.lt
              have hcz' : (c.push (c.loc b).1 ((c.loc b).2 + off) (c.cz (c.loc b).1) (c.es b)).cz (c.loc b').1 = c.cz (c.loc b').1 := hle.cz b' ok'.lt
              have hes' := hle.es b' ok'.lt
              have hlt2 := Nat.lt_of_lt_of_le ok'.lt hle.n
              by_cases hg : (c.loc b').1 = (c.loc b).1
              · have h1 := ok'.heap
                rw [hg, ok.heap] at h1
                cases h1
                have hsh' := (ok'.own hro).2.2
                rw [hg] at hsh'
                refine ⟨{ f' with ep := if k.fo + off + m < f'.hw then f'.ep + 1 else f'.ep, hw := k.fo + off + ((k.cells.drop off).take m ++ vs).length }, put cur ((c.loc b).2 + off + m) us, e, (0, 0), hlt2, by rw [hes']; exact ok'.es, by simp [Fam.get_set _ _ _ hfl, hff],
                  by rw [hlt', hg]; exact hheap, by rw [put_size _ _ _ hfit, hlt', hcz']; exact ok'.size, fun hr => by rw [hlt']; exact ok'.own hro, fun hr => by simp [hro] at hr,
                  by rw [put_size _ _ _ hfit, hlt']; exact ok'.fit, by simp only; split <;> omega, fun hr => ?_, fun hr i v hi => ?_⟩
                · simp only at hr ⊢
                  split at hr
                  · omega
                  · have := ok'.hw hr; rw [hlen]; omega
                · simp only at hr
                  split at hr
                  · omega
                  · have h2 := ok'.hw hr
                    have hi2 := (List.getElem?_eq_some_iff.1 hi).1
                    obtain ⟨u, hu, hvr⟩ := ok'.cells hr i v hi
                    rw [hlt', put_get _ _ _ _ hfit, if_neg (by omega)]
                    exact ⟨u, hu, hvr.mono hle⟩
              · refine ⟨{ f' with ep := if k.fo + off + m < f'.hw then f'.ep + 1 else f'.ep, hw := k.fo + off + ((k.cells.drop off).take m ++ vs).length }, cur', e', fr', hlt2, by rw [hes']; exact ok'.es, by simp [Fam.get_set _ _ _ hfl, hff],
                  by rw [hlt', setRow_other _ _ _ _ hg]; exact ok'.heap, by rw [hlt', hcz']; exact ok'.size, fun hr => by rw [hlt']; exact ok'.own hro, fun hr => by simp [hro] at hr,
                  by rw [hlt']; exact ok'.fit, by simp only; split <;> omega, fun hr => ?_, fun hr i v hi => ?_⟩
                · simp only at hr ⊢
                  split at hr
                  · omega
                  · have := ok'.hw hr; rw [hlen]; omega
                · simp only at hr
                  split at hr
                  · omega
                  · obtain ⟨u, hu, hvr⟩ := ok'.cells hr i v hi
                    rw [hlt']
                    exact ⟨u, hu, hvr.mono hle⟩
            · have hg : (c.loc b').1 ≠ (c.loc b).1 := fun e0 => by
                by_cases hr : f'.ro = false
                · have h1 := (ok'.own hr).1
                  rw [e0, ho] at h1
                  exact hff (Option.some.inj h1).symm
                · have h1 := ok'.ro (by simpa using hr)
                  rw [e0, ho] at h1
                  cases h1
              exact ⟨f', cur', e', fr', ok'.keep hle (by simp [Fam.get_set _ _ _ hfl, hff, ok'.fam]) (setRow_other _ _ _ _ hg) ⟨rfl, rfl⟩⟩
        · simp only at hf'
          rw [Fam.get_set _ _ _ hfl] at hf'
          split at hf'
          · rename_i e0; rw [e0]; exact h.fam _ _ hf
          · exact h.fam _ _ hf'
        · simp only [Ctx.push, setRow_size] at hb' ⊢
          split
          · exact hown.2.1
          · exact h.all b' (by omega)
      · cases hs
    · cases hs
  · cases hs

theorem Rel.grow_new {G : Nat} {w0 w : World} {c : Ctx} {g : Gh} {S S' : St} (h : Rel G w0 c g S w) {b b1 off m : Nat} {vs : List Value} (hs : S.grow b off m vs = some (b1, S'))
    {cur : Array Value} {e : TypeId} (olds us : List Value) (hlo : olds.length = m) (hl : us.length = vs.length)
    (hvo : ∀ (i : Nat) (v u : Value), i < m → (∃ k, S.live b = some k ∧ k.cells[off + i]? = some v) → olds[i]? = some u → VR c v u)
    (hv : ∀ (i : Nat) (v u : Value), vs[i]? = some v → us[i]? = some u → VR c v u) (hcur : ∀ i, i < m + us.length → cur[i]? = (olds ++ us)[i]?) :
    b1 = c.n ∧ vs.all one = true ∧ b < c.n ∧
      ∃ c' g', c.le c' ∧ c'.n = c.n + 1 ∧ c'.loc c.n = (w.heap.size, 0) ∧ c'.es c.n = c.es b ∧ c'.cz w.heap.size = cur.size ∧
        Rel G w0 c' g' S' (w.alloc (.cells cur e)) := by
  unfold St.grow at hs
  split at hs
  · rename_i k hk
    split at hs
    · rename_i f hf
      split at hs
      · rename_i hcnd
        obtain ⟨he, hro, hoff, hone, hbl, hfl⟩ := hcnd
        cases hs
        have hlive : S.live b = some k := by simp [St.live, hk, hf, he]
        obtain ⟨f', cur0, e0, fr, ok⟩ := h.blk b k hk
        have := ok.fam.symm.trans hf
        cases this
        obtain ⟨ho, rfl, hsh⟩ := ok.own hro
        have hn := h.n
        have hll : ((k.cells.drop off).take m).length = m := by rw [List.length_take, List.length_drop]; omega
        have hlen : ((k.cells.drop off).take m ++ vs).length = m + us.length := by rw [List.length_append, hll, hl]
        have hcs : m + us.length ≤ cur.size := by
          rcases Nat.eq_zero_or_pos (m + us.length) with h0 | h0
          · omega
          · have h1 := hcur (m + us.length - 1) (by omega)
            rw [List.getElem?_eq_getElem (by rw [List.length_append]; omega)] at h1
            have := (Array.getElem?_eq_some_iff.1 h1).1
            omega
        have hle : c.le (c.push w.heap.size 0 cur.size (c.es b)) := Ctx.push_le _ _ _ _ _ fun b' hb' e => absurd (h.all b' hb') (by omega)
        have hown := h.own _ _ ho
        have hhw := ok.hw he.symm
        have hx0 : ∀ b', b' < c.n → (c.loc b').1 ≠ w.heap.size := fun b' hb' => Nat.ne_of_lt (h.all b' hb')
        refine ⟨hn, hone, ok.lt, c.push w.heap.size 0 cur.size (c.es b), ⟨fun y => if y = w.heap.size then some k.fam else g.own y, fun y => if y = w.heap.size then k.fo + off else g.sh y⟩, hle, rfl, by simp [Ctx.push], by simp [Ctx.push], by simp [Ctx.push], ?_⟩
        refine ⟨by simp [Ctx.push, hn], ⟨Nat.le_trans h.glob.1 hle.n, fun i hi => (hle.loc i (Nat.lt_of_lt_of_le hi h.glob.1)).trans (h.glob.2 i hi)⟩,
          h.below.alloc h.below.size _, fun b' k' hk' => ?_, fun x φ hx => ?_, fun φ f' hf' => ?_, fun b' hb' => ?_⟩
        · simp only at hk'
          rw [Blk.get_set _ _ _ hbl] at hk'
          by_cases hbb : b' = S.nb
          · rw [if_pos hbb] at hk'
            cases hk'
            have hbn : b' = c.n := hbb.trans hn
            refine ⟨{ f with ep := if k.fo + off + m < f.hw then f.ep + 1 else f.ep, hw := k.fo + off + ((k.cells.drop off).take m ++ vs).length }, cur, e, (0, 0), by simp [Ctx.push, hbn], by simp [Ctx.push, hbn, ok.es], by simp [Fam.get_set _ _ _ hfl],
              by simp only [Ctx.push, hbn, if_true]; exact heap_alloc_new w _, by simp [Ctx.push, hbn], fun _ => by simp [Ctx.push, hbn], fun hr => by simp [hro] at hr,
              by simp only [Ctx.push, hbn, if_true, hlen]; omega, Nat.le_refl _, fun _ => Nat.le_refl _, fun _ i v hi => ?_⟩
            simp only at hi
            simp only [Ctx.push, hbn, if_true, Nat.zero_add]
            have hil := (List.getElem?_eq_some_iff.1 hi).1
            rw [hlen] at hil
            rw [hcur i hil]
            rw [List.getElem?_append, hll] at hi
            rw [List.getElem?_append, hlo]
            split at hi
            · rename_i him
              rw [List.getElem?_take, if_pos him, List.getElem?_drop] at hi
              rw [if_pos him]
              exact ⟨olds[i], List.getElem?_eq_getElem (by omega), (hvo i v olds[i] him ⟨k, hlive, hi⟩ (List.getElem?_eq_getElem (by omega))).mono hle⟩
            · rename_i him
              rw [if_neg him]
              exact ⟨us[i - m], List.getElem?_eq_getElem (by omega), (hv _ _ _ hi (List.getElem?_eq_getElem (by omega))).mono hle⟩
          · rw [if_neg hbb] at hk'
            obtain ⟨f', cur', e', fr', ok'⟩ := h.blk b' k' hk'
            have hlt := h.lt_heap hk'
            by_cases hff : k'.fam = k.fam
            · have hf2 : f' = f := by
                have h1 := ok'.fam
                rw [hff, hf] at h1
                cases h1; rfl
              subst hf2
              have hep := ok'.ep
              have hlt' := hle.loc b' ok'.lt
              have hcz' : (c.push w.heap.size 0 cur.size (c.es b)).cz (c.loc b').1 = c.cz (c.loc b').1 := hle.cz b' ok'.lt
              have hes' := hle.es b' ok'.lt
              have hlt2 := Nat.lt_of_lt_of_le ok'.lt hle.n
              refine ⟨{ f' with ep := if k.fo + off + m < f'.hw then f'.ep + 1 else f'.ep, hw := k.fo + off + ((k.cells.drop off).take m ++ vs).length }, cur', e', fr', hlt2, by rw [hes']; exact ok'.es, by simp [Fam.get_set _ _ _ hfl, hff],
                by rw [hlt', heap_alloc_old w _ _ hlt]; exact ok'.heap, by rw [hlt', hcz']; exact ok'.size, fun hr => by rw [hlt']; simpa [hx0 b' ok'.lt] using ok'.own hro, fun hr => by simp [hro] at hr,
                by rw [hlt']; exact ok'.fit, by simp only; split <;> omega, fun hr => ?_, fun hr i v hi => ?_⟩
              · simp only at hr ⊢
                split at hr
                · omega
                · have := ok'.hw hr; rw [hlen]; omega
              · simp only at hr
                split at hr
                · omega
                · obtain ⟨u, hu, hvr⟩ := ok'.cells hr i v hi
                  rw [hlt']
                  exact ⟨u, hu, hvr.mono hle⟩
            · exact ⟨f', cur', e', fr', ok'.keep hle (by simp [Fam.get_set _ _ _ hfl, hff, ok'.fam]) (heap_alloc_old w _ _ hlt) (by simp [hx0 b' ok'.lt])⟩
        · simp only at hx
          split at hx
          · rename_i e0
            cases hx
            exact ⟨by rw [e0]; exact h.below.size, by simp [e0], h.fam _ _ hf⟩
          · obtain ⟨h1, h2, h3⟩ := h.own x φ hx
            exact ⟨h1, by simp; omega, h3⟩
        · simp only at hf'
          rw [Fam.get_set _ _ _ hfl] at hf'
          split at hf'
          · rename_i e0; rw [e0]; exact h.fam _ _ hf
          · exact h.fam _ _ hf'
        · simp only [Ctx.push, World.size_alloc] at hb' ⊢
          split
          · simp
          · exact Nat.lt_succ_of_lt (h.all b' (by omega))
      · cases hs
    · cases hs
  · cases hs

end Go.Am
