/- Joined texts. The abstract memory of the evaluator: blocks of cells, families of blocks that may share memory, and the relation between them and the model's memory. Conditions: none. The abstract memory's steps, and that each is met by a step of the model's memory. Conditions: as each theorem lists them. The evaluator of one operation over the abstract memory, and that the model's operation does the same. Conditions: as each theorem lists them. Each kind of operation over the abstract memory, and that the model's operation does the same. Conditions: as each theorem lists them. Literals, make, slicing, append, bytes as a string, over the abstract memory, and that the model's operations do the same. Conditions: as each theorem lists them. len, cap, append, bytes as a string, a comparison with nil, over the abstract memory, and that the model's operations do the same. Conditions: as each theorem lists them. append, bytes as a string and a comparison with nil over the abstract memory; one operation as a whole. Conditions: as each theorem lists them. Bytes as a string, a comparison with nil; one operation, a function's code, a call, evaluated; and that the model does the same. Conditions: as each theorem lists them. -/
import Derived.Orders
import Derived.Below
import Derived.Laws.AppendOwn
import Derived.Laws.MakeOwn
import Derived.Laws.BytesString
import Derived.Tactics
set_option linter.unusedSimpArgs false
set_option linter.unusedVariables false

namespace Go.Am
open Go

inductive Trie (α : Type) where
  | leaf
  | node (v : Option α) (l r : Trie α)

def Trie.get {α : Type} : Trie α → Nat → Option α
  | .leaf, _ => none
  | .node v l r, i => cond (i == 0) v (cond (i % 2 == 1) (l.get (i / 2)) (r.get (i / 2 - 1)))

def Trie.set {α : Type} : Nat → Trie α → Nat → α → Trie α
  | 0, t, _, _ => t
  | f + 1, .leaf, i, x => cond (i == 0) (.node (some x) .leaf .leaf) (cond (i % 2 == 1) (.node none (Trie.set f .leaf (i / 2) x) .leaf) (.node none .leaf (Trie.set f .leaf (i / 2 - 1) x)))
  | f + 1, .node v l r, i, x => cond (i == 0) (.node (some x) l r) (cond (i % 2 == 1) (.node v (Trie.set f l (i / 2) x) r) (.node v l (Trie.set f r (i / 2 - 1) x)))

theorem Trie.get_leaf {α : Type} (i : Nat) : (Trie.leaf : Trie α).get i = none := rfl
theorem Trie.get_node {α : Type} (v : Option α) (l r : Trie α) (i : Nat) : (Trie.node v l r).get i = if i = 0 then v else if i % 2 = 1 then l.get (i / 2) else r.get (i / 2 - 1) := by
  simp only [Trie.get]
  by_cases h : i = 0
  · have e : (i == 0) = true := by simpa using h
    rw [e, if_pos h, cond_true]
  · have e : (i == 0) = false := by simpa using h
    rw [e, if_neg h, cond_false]
    by_cases h2 : i % 2 = 1
    · have e2 : (i % 2 == 1) = true := by simpa using h2
      rw [e2, if_pos h2, cond_true]
    · have e2 : (i % 2 == 1) = false := by simpa using h2
      rw [e2, if_neg h2, cond_false]

theorem Trie.get_node_set {α : Type} (f : Nat) (ih : ∀ (t : Trie α) (i : Nat) (x : α) (j : Nat), i + 1 < 2 ^ f → (t.set f i x).get j = if j = i then some x else t.get j)
    (v : Option α) (l r : Trie α) (i : Nat) (x : α) (j : Nat) (h : i + 1 < 2 * 2 ^ f) :
    (cond (i == 0) (Trie.node (some x) l r) (cond (i % 2 == 1) (.node v (Trie.set f l (i / 2) x) r) (.node v l (Trie.set f r (i / 2 - 1) x)))).get j = if j = i then some x else (Trie.node v l r).get j := by
  by_cases hi : i = 0
  · subst hi
    have : ((0 : Nat) == 0) = true := rfl
    rw [this, cond_true, Trie.get_node, Trie.get_node]
    by_cases hj : j = 0
    · rw [if_pos hj, if_pos hj]
    · rw [if_neg hj, if_neg hj, if_neg hj]
  · have e0 : (i == 0) = false := by simpa using hi
    rw [e0, cond_false]
    by_cases ho : i % 2 = 1
    · have e1 : (i % 2 == 1) = true := by simpa using ho
      rw [e1, cond_true, Trie.get_node, Trie.get_node, ih _ _ _ _ (by omega)]
      by_cases hj : j = 0
      · rw [if_pos hj, if_pos hj, if_neg (by omega)]
      · rw [if_neg hj, if_neg hj]
        by_cases hjo : j % 2 = 1
        · rw [if_pos hjo, if_pos hjo]
          by_cases hij : j = i
          · rw [if_pos (by rw [hij]), if_pos hij]
          · rw [if_neg (by omega), if_neg hij]
        · rw [if_neg hjo, if_neg hjo, if_neg (by rintro rfl; exact hjo ho)]
    · have e1 : (i % 2 == 1) = false := by simpa using ho
      rw [e1, cond_false, Trie.get_node, Trie.get_node, ih _ _ _ _ (by omega)]
      by_cases hj : j = 0
      · rw [if_pos hj, if_pos hj, if_neg (by omega)]
      · rw [if_neg hj, if_neg hj]
        by_cases hjo : j % 2 = 1
        · rw [if_pos hjo, if_pos hjo, if_neg (by rintro rfl; exact ho hjo)]
        · rw [if_neg hjo, if_neg hjo]
          by_cases hij : j = i
          · rw [if_pos (by rw [hij]), if_pos hij]
          · rw [if_neg (by omega), if_neg hij]

theorem Trie.get_set {α : Type} : ∀ (f : Nat) (t : Trie α) (i : Nat) (x : α) (j : Nat), i + 1 < 2 ^ f → (t.set f i x).get j = if j = i then some x else t.get j := by
  intro f
  induction f with
  | zero => intro t i x j h; simp at h
  | succ f ih =>
    intro t i x j h
    have hp : 2 ^ (f + 1) = 2 * 2 ^ f := by rw [Nat.pow_succ]; omega
    rw [hp] at h
    cases t with
    | leaf =>
      have := Trie.get_node_set f ih none .leaf .leaf i x j h
      rw [Trie.get_node (none : Option α)] at this
      simp only [Trie.get_leaf, ite_self] at this
      exact this
    | node v l r => exact Trie.get_node_set f ih v l r i x j h

/-- A block: its elements' size in cells, its cells, its family, the epoch in which it was true last, its place in its family. -/
structure Blk where
  sz : Nat
  cells : List Value
  fam : Nat
  ep : Nat
  fo : Nat

structure Fam where
  ep : Nat
  hw : Nat
  ro : Bool

structure St where
  nb : Nat
  blks : Trie Blk
  nf : Nat
  fams : Trie Fam

abbrev depth : Nat := 24
def limit : Nat := 16000000

/-- What relates abstract places to the model's: how many blocks there are, where each lies, how many cells each of the model's blocks has, each block's elements' size. -/
structure Ctx where
  n : Nat
  loc : Nat → Nat × Nat
  cz : Nat → Nat
  es : Nat → Nat

structure Ctx.le (c c' : Ctx) : Prop where
  n : c.n ≤ c'.n
  loc : ∀ b, b < c.n → c'.loc b = c.loc b
  cz : ∀ b, b < c.n → c'.cz (c.loc b).1 = c.cz (c.loc b).1
  es : ∀ b, b < c.n → c'.es b = c.es b

theorem Ctx.le.refl (c : Ctx) : c.le c := ⟨Nat.le_refl _, fun _ _ => rfl, fun _ _ => rfl, fun _ _ => rfl⟩
theorem Ctx.le.trans {a b c : Ctx} (h : a.le b) (k : b.le c) : a.le c :=
  ⟨Nat.le_trans h.n k.n, fun i hi => (k.loc i (Nat.lt_of_lt_of_le hi h.n)).trans (h.loc i hi),
   fun i hi => by
    have h1 := k.cz i (Nat.lt_of_lt_of_le hi h.n)
    rw [h.loc i hi] at h1
    exact h1.trans (h.cz i hi),
   fun i hi => (k.es i (Nat.lt_of_lt_of_le hi h.n)).trans (h.es i hi)⟩

/-- An abstract value and the model's. A slice's capacity: 0: not known; k + 1: it is k. -/
inductive VR (c : Ctx) : Value → Value → Prop where
  | bool (b : Bool) : VR c (.bool b) (.bool b)
  | int (k : IntKind) (n : Int) : VR c (.int k n) (.int k n)
  | float (k : FloatKind) (b : Nat) : VR c (.float k b) (.float k b)
  | complex (k : FloatKind) (x y : Nat) : VR c (.complex k x y) (.complex k x y)
  | string (s : ByteArray) : VR c (.string s) (.string s)
  | ptr0 : VR c (.pointer none) (.pointer none)
  | ptr (b off : Nat) (h : b < c.n) : VR c (.pointer (some ⟨b, off, none⟩)) (.pointer (some ⟨(c.loc b).1, (c.loc b).2 + off, none⟩))
  | slice0 : VR c (.slice none 0 0) (.slice none 0 0)
  | slice (b off n k m : Nat) (h : b < c.n) (hn : n ≤ m) (hk : k = 0 ∨ k = m + 1) (hc : (c.loc b).2 + off + m * c.es b ≤ c.cz (c.loc b).1) :
      VR c (.slice (some ⟨b, off, none⟩) n k) (.slice (some ⟨(c.loc b).1, (c.loc b).2 + off, none⟩) n m)
  | empty (b off k : Nat) (a : Addr) (h : b < c.n) (hk : k = 0 ∨ k = 1) : VR c (.slice (some ⟨b, off, none⟩) 0 k) (.slice (some a) 0 0)
  | map0 : VR c (.map none) (.map none)
  | chan0 : VR c (.chan none) (.chan none)
  | nilFunc : VR c .nilFunc .nilFunc
  | nilIface : VR c .nilIface .nilIface
  | agg (xs ys : Array Value) (hl : xs.size = ys.size) (h : ∀ (i : Nat) (x y : Value), xs[i]? = some x → ys[i]? = some y → VR c x y) : VR c (.agg xs) (.agg ys)
  | tuple (xs ys : Array Value) (hl : xs.size = ys.size) (h : ∀ (i : Nat) (x y : Value), xs[i]? = some x → ys[i]? = some y → VR c x y) : VR c (.tuple xs) (.tuple ys)
  | iface (t : TypeId) (x y : Value) (h : VR c x y) : VR c (.iface t x) (.iface t y)
  | func (fn : Fn) (xs ys xs' ys' : Array Value) (hl : xs.size = ys.size) (h : ∀ (i : Nat) (x y : Value), xs[i]? = some x → ys[i]? = some y → VR c x y)
      (hl' : xs'.size = ys'.size) (h' : ∀ (i : Nat) (x y : Value), xs'[i]? = some x → ys'[i]? = some y → VR c x y) : VR c (.func fn xs xs') (.func fn ys ys')

theorem VR.mono {c c' : Ctx} (hc : c.le c') {x y : Value} (h : VR c x y) : VR c' x y := by
  induction h with
  | bool b => exact .bool b
  | int k n => exact .int k n
  | float k b => exact .float k b
  | complex k x y => exact .complex k x y
  | string s => exact .string s
  | ptr0 => exact .ptr0
  | ptr b off h =>
    have := VR.ptr (c := c') b off (Nat.lt_of_lt_of_le h hc.n)
    rwa [hc.loc b h] at this
  | slice0 => exact .slice0
  | slice b off n k m h hn hk hcap =>
    have := VR.slice (c := c') b off n k m (Nat.lt_of_lt_of_le h hc.n) hn hk (by rw [hc.loc b h, hc.es b h, hc.cz b h]; exact hcap)
    rwa [hc.loc b h] at this
  | empty b off k a h hk => exact .empty b off k a (Nat.lt_of_lt_of_le h hc.n) hk
  | map0 => exact .map0
  | chan0 => exact .chan0
  | nilFunc => exact .nilFunc
  | nilIface => exact .nilIface
  | agg xs ys hl _ ih => exact .agg xs ys hl fun i x y hx hy => ih i x y hx hy
  | tuple xs ys hl _ ih => exact .tuple xs ys hl fun i x y hx hy => ih i x y hx hy
  | iface t x y _ ih => exact .iface t x y ih
  | func fn xs ys xs' ys' hl _ hl' _ ih ih' => exact .func fn xs ys xs' ys' hl (fun i x y hx hy => ih i x y hx hy) hl' fun i x y hx hy => ih' i x y hx hy

/-- Values without an address. -/
def af : Nat → Value → Bool
  | 0, _ => false
  | n + 1, v => match v with
    | .bool _ | .int _ _ | .float _ _ | .complex _ _ _ | .string _ | .pointer none | .slice none 0 0 | .map none | .chan none | .nilFunc | .nilIface => true
    | .agg xs | .tuple xs => xs.toList.all (af n)
    | .iface _ x => af n x
    | .func _ xs ys => xs.toList.all (af n) && ys.toList.all (af n)
    | _ => false

theorem all_get {p : Value → Bool} {xs : Array Value} (h : xs.toList.all p = true) {i : Nat} {x : Value} (hx : xs[i]? = some x) : p x = true := by
  rw [List.all_eq_true] at h
  exact h x (by rw [Array.mem_toList_iff]; exact Array.mem_of_getElem? hx)

theorem af_refl (c : Ctx) : ∀ (n : Nat) (v : Value), af n v = true → VR c v v
  | 0, _, h => by simp [af] at h
  | n + 1, v, h => by
    have arr : ∀ xs : Array Value, xs.toList.all (af n) = true → ∀ (i : Nat) (x y : Value), xs[i]? = some x → xs[i]? = some y → VR c x y := fun xs hx i x y h1 h2 => by
      rw [h1] at h2
      cases h2
      exact af_refl c n x (all_get hx h1)
    unfold af at h
    split at h
    · exact .bool _
    · exact .int _ _
    · exact .float _ _
    · exact .complex _ _ _
    · exact .string _
    · exact .ptr0
    · exact .slice0
    · exact .map0
    · exact .chan0
    · exact .nilFunc
    · exact .nilIface
    · exact .agg _ _ rfl (arr _ h)
    · exact .tuple _ _ rfl (arr _ h)
    · exact .iface _ _ _ (af_refl c n _ h)
    · rw [Bool.and_eq_true] at h
      exact .func _ _ _ _ _ rfl (arr _ h.1) rfl (arr _ h.2)
    · cases h

theorem arr_ext {xs ys : Array Value} (hl : xs.size = ys.size) (h : ∀ (i : Nat) (x y : Value), xs[i]? = some x → ys[i]? = some y → y = x) : ys = xs := by
  apply Array.ext hl.symm
  intro i h1 h2
  exact h i xs[i] ys[i] (Array.getElem?_eq_getElem h2) (Array.getElem?_eq_getElem h1)

theorem af_eq {c : Ctx} : ∀ (n : Nat) (v u : Value), af n v = true → VR c v u → u = v
  | 0, _, _, h, _ => by simp [af] at h
  | n + 1, v, u, h, hv => by
    have arr : ∀ xs ys : Array Value, xs.toList.all (af n) = true → xs.size = ys.size → (∀ (i : Nat) (x y : Value), xs[i]? = some x → ys[i]? = some y → VR c x y) → ys = xs := fun xs ys hx hl hh =>
      arr_ext hl fun i x y h1 h2 => af_eq n x y (all_get hx h1) (hh i x y h1 h2)
    unfold af at h
    cases hv with
    | agg xs ys hl hh => rw [arr xs ys h hl hh]
    | tuple xs ys hl hh => rw [arr xs ys h hl hh]
    | iface t x y hh => rw [af_eq n x y h hh]
    | func fn xs ys xs' ys' hl hh hl' hh' =>
      simp only [Bool.and_eq_true] at h
      rw [arr xs ys h.1 hl hh, arr xs' ys' h.2 hl' hh']
    | ptr b off hb => simp at h
    | slice b off n k m hb hn hk hc => simp at h
    | empty b off k a hb hk => simp at h
    | _ => rfl

end Go.Am

namespace Go.Am
open Go Go.RowKit

def St.live (S : St) (b : Nat) : Option Blk :=
  match S.blks.get b with
  | some k => match S.fams.get k.fam with
    | some f => if f.ep = k.ep then some k else none
    | none => none
  | none => none

def St.rd (S : St) (b off n : Nat) : Option (List Value) :=
  match S.live b with
  | some k => if off + n ≤ k.cells.length then some ((k.cells.drop off).take n) else none
  | none => none

/-- A value that one cell holds. -/
def one (v : Value) : Bool := match v with | .agg _ | .tuple _ => false | _ => true

def St.alloc (S : St) (sz : Nat) (cells : List Value) : Option (Nat × St) :=
  if S.nb < limit ∧ S.nf < limit then
    some (S.nb, { nb := S.nb + 1, blks := S.blks.set depth S.nb ⟨sz, cells, S.nf, 0, 0⟩, nf := S.nf + 1, fams := S.fams.set depth S.nf ⟨0, cells.length, false⟩ })
  else none

def St.wr (S : St) (b off : Nat) (vs : List Value) : Option St :=
  match S.blks.get b with
  | some k => match S.fams.get k.fam with
    | some f =>
      if f.ep = k.ep ∧ f.ro = false ∧ off + vs.length ≤ k.cells.length ∧ vs.all one = true ∧ b < limit ∧ k.fam < limit then
        some { S with blks := S.blks.set depth b { k with cells := k.cells.take off ++ vs ++ k.cells.drop (off + vs.length), ep := f.ep + 1 },
                      fams := S.fams.set depth k.fam { f with ep := f.ep + 1, hw := k.fo + k.cells.length } }
      else none
    | none => none
  | none => none

/-- Behind cells 'off' to 'off + m' of block b stand 'news', in memory that may be that block's own: the new block. -/
def St.grow (S : St) (b off m : Nat) (news : List Value) : Option (Nat × St) :=
  match S.blks.get b with
  | some k => match S.fams.get k.fam with
    | some f =>
      if f.ep = k.ep ∧ f.ro = false ∧ off + m ≤ k.cells.length ∧ news.all one = true ∧ S.nb < limit ∧ k.fam < limit then
        let cells := (k.cells.drop off).take m ++ news
        let ep := if k.fo + off + m < f.hw then f.ep + 1 else f.ep
        some (S.nb, { S with nb := S.nb + 1, blks := S.blks.set depth S.nb ⟨k.sz, cells, k.fam, ep, k.fo + off⟩,
                             fams := S.fams.set depth k.fam { f with ep := ep, hw := k.fo + off + cells.length } })
      else none
    | none => none
  | none => none

/-- Ghosts: to which family a block of the model's belongs, and at which place of its family its first cell stands. -/
structure Gh where
  own : Nat → Option Nat
  sh : Nat → Nat

/-- What is said of one abstract block. -/
structure BlkOK (c : Ctx) (g : Gh) (S : St) (w : World) (b : Nat) (k : Blk) (f : Fam) (cur : Array Value) (e : TypeId) (fr : Nat × Nat) : Prop where
  lt : b < c.n
  es : c.es b = k.sz
  fam : S.fams.get k.fam = some f
  heap : w.heap[(c.loc b).1]? = some (.cells cur e fr)
  size : cur.size = c.cz (c.loc b).1
  own : f.ro = false → g.own (c.loc b).1 = some k.fam ∧ fr = (0, 0) ∧ (c.loc b).2 + g.sh (c.loc b).1 = k.fo
  ro : f.ro = true → g.own (c.loc b).1 = none
  fit : (c.loc b).2 + k.cells.length ≤ cur.size
  ep : k.ep ≤ f.ep
  hw : k.ep = f.ep → k.fo + k.cells.length ≤ f.hw
  cells : k.ep = f.ep → ∀ i v, k.cells[i]? = some v → ∃ u, cur[(c.loc b).2 + i]? = some u ∧ VR c v u

/-- The abstract memory stands for the model's: G: how many package-level variables there are; w0: the world as the call began. -/
structure Rel (G : Nat) (w0 : World) (c : Ctx) (g : Gh) (S : St) (w : World) : Prop where
  n : S.nb = c.n
  glob : G ≤ c.n ∧ ∀ i, i < G → c.loc i = (i, 0)
  below : Below w0.heap.size w0 w
  blk : ∀ b k, S.blks.get b = some k → ∃ f cur e fr, BlkOK c g S w b k f cur e fr
  own : ∀ x φ, g.own x = some φ → w0.heap.size ≤ x ∧ x < w.heap.size ∧ φ < S.nf
  fam : ∀ φ f, S.fams.get φ = some f → φ < S.nf
  all : ∀ b, b < c.n → (c.loc b).1 < w.heap.size

theorem Rel.live {G : Nat} {w0 w : World} {c : Ctx} {g : Gh} {S : St} (h : Rel G w0 c g S w) {b : Nat} {k : Blk} (hl : S.live b = some k) :
    ∃ f cur e fr, BlkOK c g S w b k f cur e fr ∧ k.ep = f.ep ∧ S.blks.get b = some k := by
  unfold St.live at hl
  split at hl
  · rename_i k' hk
    obtain ⟨f, cur, e, fr, ok⟩ := h.blk b k' hk
    split at hl
    · rename_i f' hf
      split at hl
      · rename_i he
        cases hl
        have := ok.fam.symm.trans hf
        cases this
        exact ⟨f, cur, e, fr, ok, he.symm, hk⟩
      · cases hl
    · cases hl
  · cases hl

theorem cell_of (w : World) (g i : Nat) (cur : Array Value) (e : TypeId) (fr : Nat × Nat) (h : w.heap[g]? = some (.cells cur e fr)) : w.cell? ⟨g, i, none⟩ = cur[i]? := by
  simp [World.cell?, h]

theorem Rel.rd {G : Nat} {w0 w : World} {c : Ctx} {g : Gh} {S : St} (h : Rel G w0 c g S w) {b off n : Nat} {vs : List Value} (hr : S.rd b off n = some vs) :
    b < c.n ∧ vs.length = n ∧ ∃ us : List Value, us.length = n ∧ (∀ (j : Nat) (u : Value), us[j]? = some u → w.cell? ⟨(c.loc b).1, (c.loc b).2 + off + j, none⟩ = some u) ∧
      ∀ (j : Nat) (v u : Value), vs[j]? = some v → us[j]? = some u → VR c v u := by
  unfold St.rd at hr
  split at hr
  · rename_i k hk
    split at hr
    · rename_i hn
      cases hr
      obtain ⟨f, cur, e, fr, ok, he, _⟩ := h.live hk
      have hlen : ((k.cells.drop off).take n).length = n := by rw [List.length_take, List.length_drop]; omega
      refine ⟨ok.lt, hlen, (List.range n).map (fun j => cur[(c.loc b).2 + off + j]?.getD undef), by simp, ?_, ?_⟩
      · intro j u hu
        rw [List.getElem?_map] at hu
        have hj : j < n := by
          rcases Nat.lt_or_ge j n with h | h
          · exact h
          · rw [List.getElem?_eq_none (by simpa using h)] at hu; cases hu
        rw [List.getElem?_eq_getElem (by simpa using hj)] at hu
        simp only [List.getElem_range, Option.map_some, Option.some.injEq] at hu
        obtain ⟨v, hv⟩ : ∃ v, k.cells[off + j]? = some v := ⟨_, List.getElem?_eq_getElem (show off + j < k.cells.length by omega)⟩
        obtain ⟨u', hu', _⟩ := ok.cells he _ _ hv
        rw [cell_of w _ _ cur e fr ok.heap]
        rw [← Nat.add_assoc] at hu'
        rw [hu'] at hu ⊢
        simp only [Option.getD_some] at hu
        rw [hu]
      · intro j v u hv hu
        rw [List.getElem?_map] at hu
        have hj : j < n := by
          rcases Nat.lt_or_ge j n with h | h
          · exact h
          · rw [List.getElem?_eq_none (by simpa using h)] at hu; cases hu
        rw [List.getElem?_eq_getElem (by simpa using hj)] at hu
        simp only [List.getElem_range, Option.map_some, Option.some.injEq] at hu
        rw [List.getElem?_take, if_pos hj, List.getElem?_drop] at hv
        obtain ⟨u', hu', hvr⟩ := ok.cells he _ _ hv
        rw [← Nat.add_assoc] at hu'
        rw [hu'] at hu
        simp only [Option.getD_some] at hu
        rw [← hu]
        exact hvr
    · cases hr
  · cases hr

theorem lim {b : Nat} (h : b < limit) : b + 1 < 2 ^ depth := by unfold limit at h; unfold depth; omega

theorem Blk.get_set (t : Trie Blk) {i : Nat} (x : Blk) (j : Nat) (h : i < limit) : (t.set depth i x).get j = if j = i then some x else t.get j := Trie.get_set _ _ _ _ _ (lim h)
theorem Fam.get_set (t : Trie Fam) {i : Nat} (x : Fam) (j : Nat) (h : i < limit) : (t.set depth i x).get j = if j = i then some x else t.get j := Trie.get_set _ _ _ _ _ (lim h)

/-- What a new block of the model's does to the context. -/
def Ctx.push (c : Ctx) (x o z s : Nat) : Ctx :=
  { n := c.n + 1, loc := fun b => if b = c.n then (x, o) else c.loc b, cz := fun y => if y = x then z else c.cz y, es := fun b => if b = c.n then s else c.es b }

theorem Ctx.push_le (c : Ctx) (x o z s : Nat) (h : ∀ b, b < c.n → (c.loc b).1 = x → c.cz x = z) : c.le (c.push x o z s) := by
  refine ⟨by simp [Ctx.push], fun b hb => ?_, fun b hb => ?_, fun b hb => ?_⟩
  · simp [Ctx.push, Nat.ne_of_lt hb]
  · simp only [Ctx.push]
    split
    · rename_i e; rw [e]; exact (h b hb e).symm
    · rfl
  · simp [Ctx.push, Nat.ne_of_lt hb]

/-- Reading goes on under a longer context, in a world that has kept the block's cells. -/
theorem BlkOK.keep {c c' : Ctx} {g g' : Gh} {S S' : St} {w w' : World} {b : Nat} {k : Blk} {f : Fam} {cur : Array Value} {e : TypeId} {fr : Nat × Nat} (h : BlkOK c g S w b k f cur e fr)
    (hc : c.le c') (hf : S'.fams.get k.fam = some f) (hh : w'.heap[(c.loc b).1]? = w.heap[(c.loc b).1]?)
    (ho : g'.own (c.loc b).1 = g.own (c.loc b).1 ∧ g'.sh (c.loc b).1 = g.sh (c.loc b).1) : BlkOK c' g' S' w' b k f cur e fr := by
  have hl := hc.loc b h.lt
  refine ⟨Nat.lt_of_lt_of_le h.lt hc.n, (hc.es b h.lt).trans h.es, hf, by rw [hl, hh]; exact h.heap, by rw [hl, hc.cz b h.lt]; exact h.size, fun hr => ?_, fun hr => by rw [hl, ho.1]; exact h.ro hr, by rw [hl]; exact h.fit, h.ep, h.hw, fun he i v hv => ?_⟩
  · obtain ⟨h1, h2, h3⟩ := h.own hr
    rw [hl, ho.2, ho.1]
    exact ⟨h1, h2, h3⟩
  · obtain ⟨u, hu, hvr⟩ := h.cells he i v hv
    exact ⟨u, by rw [hl]; exact hu, hvr.mono hc⟩

theorem Rel.lt_heap {G : Nat} {w0 w : World} {c : Ctx} {g : Gh} {S : St} (h : Rel G w0 c g S w) {b : Nat} {k : Blk} (hk : S.blks.get b = some k) : (c.loc b).1 < w.heap.size := by
  obtain ⟨f, cur, e, fr, ok⟩ := h.blk b k hk
  exact (Array.getElem?_eq_some_iff.1 ok.heap).1

theorem Rel.drew {G : Nat} {w0 w : World} {c : Ctx} {g : Gh} {S : St} (h : Rel G w0 c g S w) : Rel G w0 c g S w.drew :=
  ⟨h.n, h.glob, h.below.drew, fun b k hk => by
    obtain ⟨f, cur, e, fr, ok⟩ := h.blk b k hk
    exact ⟨f, cur, e, fr, ok.keep (Ctx.le.refl _) ok.fam rfl ⟨rfl, rfl⟩⟩, h.own, h.fam, h.all⟩

/-- A new block, in a family of its own. -/
theorem Rel.alloc {G : Nat} {w0 w : World} {c : Ctx} {g : Gh} {S S' : St} (h : Rel G w0 c g S w) {sz b : Nat} {cells : List Value} (hs : S.alloc sz cells = some (b, S'))
    {cur : Array Value} {e : TypeId} (hcur : cells.length ≤ cur.size) (hv : ∀ (i : Nat) (v u : Value), cells[i]? = some v → cur[i]? = some u → VR c v u) :
    b = c.n ∧ ∃ c' g', c.le c' ∧ c'.n = c.n + 1 ∧ c'.loc c.n = (w.heap.size, 0) ∧ c'.es c.n = sz ∧ c'.cz w.heap.size = cur.size ∧ Rel G w0 c' g' S' (w.alloc (.cells cur e)) := by
  unfold St.alloc at hs
  split at hs
  · rename_i hlim
    cases hs
    have hn := h.n
    have hle : c.le (c.push w.heap.size 0 cur.size sz) := Ctx.push_le _ _ _ _ _ fun b hb e => absurd (h.all b hb) (by omega)
    refine ⟨hn, c.push w.heap.size 0 cur.size sz, ⟨fun y => if y = w.heap.size then some S.nf else g.own y, fun y => if y = w.heap.size then 0 else g.sh y⟩, hle, rfl, by simp [Ctx.push], by simp [Ctx.push], by simp [Ctx.push], ?_⟩
    refine ⟨by simp [Ctx.push, hn], ⟨Nat.le_trans h.glob.1 hle.n, fun i hi => (hle.loc i (Nat.lt_of_lt_of_le hi h.glob.1)).trans (h.glob.2 i hi)⟩, h.below.alloc h.below.size _, fun b k hk => ?_, fun x φ hx => ?_, fun φ f hf => ?_, fun b hb => ?_⟩
    · rw [Blk.get_set _ _ _ hlim.1] at hk
      by_cases hb : b = S.nb
      · rw [if_pos hb] at hk
        cases hk
        have hbn : b = c.n := hb.trans hn
        refine ⟨⟨0, cells.length, false⟩, cur, e, (0, 0), ?_⟩
        refine ⟨by simp [Ctx.push, hbn], by simp [Ctx.push, hbn], by simp [Fam.get_set _ _ _ hlim.2], by simp only [Ctx.push, hbn, if_true]; exact heap_alloc_new w _, by simp [Ctx.push, hbn], fun _ => by simp [Ctx.push, hbn], fun hr => (by cases hr), by simpa [Ctx.push, hbn] using hcur, Nat.le_refl _, fun _ => by simp, fun _ i v hi => ?_⟩
        have hil : i < cur.size := Nat.lt_of_lt_of_le (List.getElem?_eq_some_iff.1 hi).1 hcur
        exact ⟨cur[i], by simp [Ctx.push, hbn, Array.getElem?_eq_getElem hil], (hv i v cur[i] hi (Array.getElem?_eq_getElem hil)).mono hle⟩
      · rw [if_neg hb] at hk
        obtain ⟨f, cur', e', fr, ok⟩ := h.blk b k hk
        have hlt := h.lt_heap hk
        have hfn : k.fam ≠ S.nf := Nat.ne_of_lt (h.fam _ _ ok.fam)
        refine ⟨f, cur', e', fr, ok.keep hle (by simp [Fam.get_set _ _ _ hlim.2, hfn, ok.fam]) (heap_alloc_old w _ _ hlt) ?_⟩
        have : (c.loc b).1 ≠ w.heap.size := by omega
        simp [this]
    · simp only at hx
      split at hx
      · rename_i e0
        cases hx
        refine ⟨by rw [e0]; exact h.below.size, by simp [e0], by simp⟩
      · obtain ⟨h1, h2, h3⟩ := h.own x φ hx
        exact ⟨h1, by simp; omega, by simp; omega⟩
    · simp only at hf ⊢
      rw [Fam.get_set _ _ _ hlim.2] at hf
      split at hf
      · omega
      · have := h.fam φ f hf; omega
    · simp only [Ctx.push, World.size_alloc] at hb ⊢
      split
      · simp
      · exact Nat.lt_succ_of_lt (h.all b (by omega))
  · cases hs

theorem take_drop_get {α : Type} (xs ys : List α) (off j : Nat) (hoff : off + ys.length ≤ xs.length) :
    (xs.take off ++ ys ++ xs.drop (off + ys.length))[j]? = if off ≤ j ∧ j < off + ys.length then ys[j - off]? else xs[j]? := by
  rw [List.append_assoc, List.getElem?_append]
  have hl : (xs.take off).length = off := by rw [List.length_take]; omega
  rw [hl]
  by_cases h1 : j < off
  · rw [if_pos h1, if_neg (by omega), List.getElem?_take, if_pos h1]
  · rw [if_neg h1, List.getElem?_append]
    by_cases h2 : j - off < ys.length
    · rw [if_pos h2, if_pos (by omega)]
    · rw [if_neg h2, if_neg (by omega), List.getElem?_drop]
      congr 1
      omega

/-- The cells of a block of the model's, some of them written. -/
def put (cur : Array Value) (off : Nat) (us : List Value) : Array Value := (cur.toList.take off ++ us ++ cur.toList.drop (off + us.length)).toArray

theorem put_get (cur : Array Value) (off : Nat) (us : List Value) (j : Nat) (h : off + us.length ≤ cur.size) :
    (put cur off us)[j]? = if off ≤ j ∧ j < off + us.length then us[j - off]? else cur[j]? := by
  unfold put
  rw [List.getElem?_toArray, take_drop_get _ _ _ _ (by simpa using h)]
  simp
theorem put_size (cur : Array Value) (off : Nat) (us : List Value) (h : off + us.length ≤ cur.size) : (put cur off us).size = cur.size := by
  unfold put
  simp only [List.size_toArray, List.length_append, List.length_take, List.length_drop, Array.length_toList]
  omega

/-- A block's cells are written: all others of its family are given up. -/
theorem Rel.wr {G : Nat} {w0 w : World} {c : Ctx} {g : Gh} {S S' : St} (h : Rel G w0 c g S w) {b off : Nat} {vs us : List Value} (hs : S.wr b off vs = some S') (hl : us.length = vs.length)
    (hv : ∀ (i : Nat) (v u : Value), vs[i]? = some v → us[i]? = some u → VR c v u) :
    ∃ cur e, w.heap[(c.loc b).1]? = some (.cells cur e (0, 0)) ∧ (c.loc b).2 + off + us.length ≤ cur.size ∧ b < c.n ∧ vs.all one = true ∧
      Rel G w0 c g S' (w.setRow (c.loc b).1 (put cur ((c.loc b).2 + off) us)) := by
  unfold St.wr at hs
  split at hs
  · rename_i k hk
    split at hs
    · rename_i f hf
      split at hs
      · rename_i hcnd
        obtain ⟨he, hro, hoff, hone, hbl, hfl⟩ := hcnd
        cases hs
        obtain ⟨f', cur, e, fr, ok⟩ := h.blk b k hk
        have := ok.fam.symm.trans hf
        cases this
        obtain ⟨ho, rfl, hsh⟩ := ok.own hro
        have hfit : (c.loc b).2 + off + us.length ≤ cur.size := by have := ok.fit; omega
        have hheap := setRow_heap w (c.loc b).1 cur (put cur ((c.loc b).2 + off) us) e (0, 0) ok.heap
        have hlen : (k.cells.take off ++ vs ++ k.cells.drop (off + vs.length)).length = k.cells.length := by
          simp only [List.length_append, List.length_take, List.length_drop]; omega
        refine ⟨cur, e, ok.heap, hfit, ok.lt, hone, ?_⟩
        have hown := h.own _ _ ho
        refine ⟨h.n, h.glob, ⟨h.below.os, h.below.tape, h.below.output, by simpa using h.below.size, fun i hi => (setRow_other w _ i _ (by omega)).trans (h.below.block i hi)⟩, fun b' k' hk' => ?_,
          fun x φ hx => by simpa using h.own x φ hx, fun φ f' hf' => ?_, fun b' hb' => by simpa using h.all b' hb'⟩
        · simp only at hk'
          rw [Blk.get_set _ _ _ hbl] at hk'
          by_cases hbb : b' = b
          · rw [if_pos hbb] at hk'
            cases hk'
            subst hbb
            refine ⟨{ f with ep := f.ep + 1, hw := k.fo + k.cells.length }, _, e, (0, 0), ok.lt, ok.es, by simp [Fam.get_set _ _ _ hfl], hheap, by rw [put_size _ _ _ hfit]; exact ok.size, fun _ => ⟨ho, rfl, hsh⟩, fun hr => by simp [hro] at hr,
              by rw [put_size _ _ _ hfit, hlen]; exact ok.fit, Nat.le_refl _, fun _ => by simp only [hlen]; omega, fun _ i v hi => ?_⟩
            simp only at hi
            rw [take_drop_get _ _ _ _ hoff] at hi
            rw [put_get _ _ _ _ hfit]
            split at hi
            · rename_i hin
              rw [if_pos (by omega), show (c.loc b').2 + i - ((c.loc b').2 + off) = i - off by omega]
              have hil : i - off < us.length := by omega
              exact ⟨us[i - off], List.getElem?_eq_getElem hil, hv _ _ _ hi (List.getElem?_eq_getElem hil)⟩
            · rename_i hin
              rw [if_neg (by omega)]
              exact ok.cells he.symm i v hi
          · rw [if_neg hbb] at hk'
            obtain ⟨f', cur', e', fr', ok'⟩ := h.blk b' k' hk'
            by_cases hff : k'.fam = k.fam
            · have hf2 : f' = f := by
                have h1 := ok'.fam
                rw [hff, hf] at h1
                cases h1; rfl
              subst hf2
              have hep := ok'.ep
              by_cases hg : (c.loc b').1 = (c.loc b).1
              · have h1 := ok'.heap
                rw [hg, ok.heap] at h1
                cases h1
                refine ⟨{ f' with ep := f'.ep + 1, hw := k.fo + k.cells.length }, put cur ((c.loc b).2 + off) us, e, (0, 0), ok'.lt, ok'.es, by simp [Fam.get_set _ _ _ hfl, hff], by rw [hg]; exact hheap, by rw [put_size _ _ _ hfit]; exact ok'.size, ok'.own, fun hr => by simp [hro] at hr,
                  by rw [put_size _ _ _ hfit]; exact ok'.fit, by simp only; omega, fun hr => by simp only at hr; omega, fun hr => by simp only at hr; omega⟩
              · refine ⟨{ f' with ep := f'.ep + 1, hw := k.fo + k.cells.length }, cur', e', fr', ok'.lt, ok'.es, by simp [Fam.get_set _ _ _ hfl, hff], by rw [setRow_other _ _ _ _ hg]; exact ok'.heap, ok'.size, ok'.own, fun hr => by simp [hro] at hr,
                  ok'.fit, by simp only; omega, fun hr => by simp only at hr; omega, fun hr => by simp only at hr; omega⟩
            · have hg : (c.loc b').1 ≠ (c.loc b).1 := fun e0 => by
                by_cases hr : f'.ro = false
                · have h1 := (ok'.own hr).1
                  rw [e0, ho] at h1
                  exact hff (Option.some.inj h1).symm
                · have h1 := ok'.ro (by simpa using hr)
                  rw [e0, ho] at h1
                  cases h1
              exact ⟨f', cur', e', fr', ok'.keep (Ctx.le.refl _) (by simp [Fam.get_set _ _ _ hfl, hff, ok'.fam]) (setRow_other _ _ _ _ hg) ⟨rfl, rfl⟩⟩
        · simp only at hf'
          rw [Fam.get_set _ _ _ hfl] at hf'
          split at hf'
          · rename_i e0; rw [e0]; exact h.fam _ _ hf
          · exact h.fam _ _ hf'
      · cases hs
    · cases hs
  · cases hs


/-- The cells that stand behind some of a block's cells, in the model: in its own memory, where there is room, or in a new block. -/
theorem Rel.grow_in {G : Nat} {w0 w : World} {c : Ctx} {g : Gh} {S S' : St} (h : Rel G w0 c g S w) {b b1 off m : Nat} {vs us : List Value} (hs : S.grow b off m vs = some (b1, S')) (hl : us.length = vs.length)
    (hv : ∀ (i : Nat) (v u : Value), vs[i]? = some v → us[i]? = some u → VR c v u) (hroom : (c.loc b).2 + off + m + us.length ≤ c.cz (c.loc b).1) :
    b1 = c.n ∧ vs.all one = true ∧ b < c.n ∧ ∃ cur e, w.heap[(c.loc b).1]? = some (.cells cur e (0, 0)) ∧ cur.size = c.cz (c.loc b).1 ∧
      ∃ c' g', c.le c' ∧ c'.n = c.n + 1 ∧ c'.loc c.n = ((c.loc b).1, (c.loc b).2 + off) ∧ c'.es c.n = c.es b ∧ (∀ x, c'.cz x = c.cz x) ∧
        Rel G w0 c' g' S' (w.setRow (c.loc b).1 (put cur ((c.loc b).2 + off + m) us)) := by
  unfold St.grow at hs
  split at hs
  · rename_i k hk
    split at hs
    · rename_i f hf
      split at hs
      · rename_i hcnd
        obtain ⟨he, hro, hoff, hone, hbl, hfl⟩ := hcnd
        cases hs
        obtain ⟨f', cur, e, fr, ok⟩ := h.blk b k hk
        have := ok.fam.symm.trans hf
        cases this
        obtain ⟨ho, rfl, hsh⟩ := ok.own hro
        have hn := h.n
        have hsz := ok.size
        have hfit : (c.loc b).2 + off + m + us.length ≤ cur.size := by omega
        have hheap := setRow_heap w (c.loc b).1 cur (put cur ((c.loc b).2 + off + m) us) e (0, 0) ok.heap
        have hll : ((k.cells.drop off).take m).length = m := by rw [List.length_take, List.length_drop]; omega
        have hlen : ((k.cells.drop off).take m ++ vs).length = m + us.length := by rw [List.length_append, hll, hl]
        have hle : c.le (c.push (c.loc b).1 ((c.loc b).2 + off) (c.cz (c.loc b).1) (c.es b)) := Ctx.push_le _ _ _ _ _ fun _ _ _ => rfl
        have hown := h.own _ _ ho
        have hhw := ok.hw he.symm
        refine ⟨hn, hone, ok.lt, cur, e, ok.heap, hsz, c.push (c.loc b).1 ((c.loc b).2 + off) (c.cz (c.loc b).1) (c.es b), g, hle, rfl, by simp [Ctx.push], by simp [Ctx.push], fun x => by simp only [Ctx.push]; split <;> simp_all, ?_⟩
        refine ⟨by simp [Ctx.push, hn], ⟨Nat.le_trans h.glob.1 hle.n, fun i hi => (hle.loc i (Nat.lt_of_lt_of_le hi h.glob.1)).trans (h.glob.2 i hi)⟩,
          ⟨h.below.os, h.below.tape, h.below.output, by simpa using h.below.size, fun i hi => (setRow_other w _ i _ (by omega)).trans (h.below.block i hi)⟩, fun b' k' hk' => ?_,
          fun x φ hx => by simpa using h.own x φ hx, fun φ f' hf' => ?_, fun b' hb' => ?_⟩
        · simp only at hk'
          rw [Blk.get_set _ _ _ hbl] at hk'
          by_cases hbb : b' = S.nb
          · rw [if_pos hbb] at hk'
            cases hk'
            have hbn : b' = c.n := hbb.trans hn
            refine ⟨{ f with ep := if k.fo + off + m < f.hw then f.ep + 1 else f.ep, hw := k.fo + off + ((k.cells.drop off).take m ++ vs).length }, put cur ((c.loc b).2 + off + m) us, e, (0, 0), by simp [Ctx.push, hbn], by simp [Ctx.push, hbn, ok.es], by simp [Fam.get_set _ _ _ hfl],
              by simp only [Ctx.push, hbn, if_true]; exact hheap, by simp [Ctx.push, hbn, put_size _ _ _ hfit, hsz], fun _ => ⟨by simp [Ctx.push, hbn, ho], rfl, by simp only [Ctx.push, hbn, if_true]; omega⟩, fun hr => by simp [hro] at hr,
              by simp only [Ctx.push, hbn, if_true, put_size _ _ _ hfit, hlen]; omega, Nat.le_refl _, fun _ => Nat.le_refl _, fun _ i v hi => ?_⟩
            simp only at hi
            simp only [Ctx.push, hbn, if_true]
            rw [List.getElem?_append, hll] at hi
            rw [put_get _ _ _ _ hfit]
            split at hi
            · rename_i him
              rw [List.getElem?_take, if_pos him, List.getElem?_drop] at hi
              obtain ⟨u, hu, hvr⟩ := ok.cells he.symm _ _ hi
              rw [if_neg (by omega)]
              exact ⟨u, by rw [Nat.add_assoc]; exact hu, hvr.mono hle⟩
            · rename_i him
              have hil : i - m < vs.length := (List.getElem?_eq_some_iff.1 hi).1
              rw [if_pos (by omega), show (c.loc b).2 + off + i - ((c.loc b).2 + off + m) = i - m by omega]
              exact ⟨us[i - m], List.getElem?_eq_getElem (by omega), (hv _ _ _ hi (List.getElem?_eq_getElem (by omega))).mono hle⟩
          · rw [if_neg hbb] at hk'
            obtain ⟨f', cur', e', fr', ok'⟩ := h.blk b' k' hk'
            by_cases hff : k'.fam = k.fam
            · have hf2 : f' = f := by
                have h1 := ok'.fam
                rw [hff, hf] at h1
                cases h1; rfl
              subst hf2
              have hep := ok'.ep
              have hlt' := hle.loc b' ok'.lt
              have hcz' : (c.push (c.loc b).1 ((c.loc b).2 + off) (c.cz (c.loc b).1) (c.es b)).cz (c.loc b').1 = c.cz (c.loc b').1 := hle.cz b' ok'.lt
              have hes' := hle.es b' ok'.lt
              have hlt2 := Nat.lt_of_lt_of_le ok'.lt hle.n
              by_cases hg : (c.loc b').1 = (c.loc b).1
              · have h1 := ok'.heap
                rw [hg, ok.heap] at h1
                cases h1
                have hsh' := (ok'.own hro).2.2
                rw [hg] at hsh'
                refine ⟨{ f' with ep := if k.fo + off + m < f'.hw then f'.ep + 1 else f'.ep, hw := k.fo + off + ((k.cells.drop off).take m ++ vs).length }, put cur ((c.loc b).2 + off + m) us, e, (0, 0), hlt2, by rw [hes']; exact ok'.es, by simp [Fam.get_set _ _ _ hfl, hff],
                  by rw [hlt', hg]; exact hheap, by rw [put_size _ _ _ hfit, hlt', hcz']; exact ok'.size, fun hr => by rw [hlt']; exact ok'.own hro, fun hr => by simp [hro] at hr,
                  by rw [put_size _ _ _ hfit, hlt']; exact ok'.fit, by simp only; split <;> omega, fun hr => ?_, fun hr i v hi => ?_⟩
                · simp only at hr ⊢
                  split at hr
                  · omega
                  · have := ok'.hw hr; rw [hlen]; omega
                · simp only at hr
                  split at hr
                  · omega
                  · have h2 := ok'.hw hr
                    have hi2 := (List.getElem?_eq_some_iff.1 hi).1
                    obtain ⟨u, hu, hvr⟩ := ok'.cells hr i v hi
                    rw [hlt', put_get _ _ _ _ hfit, if_neg (by omega)]
                    exact ⟨u, hu, hvr.mono hle⟩
              · refine ⟨{ f' with ep := if k.fo + off + m < f'.hw then f'.ep + 1 else f'.ep, hw := k.fo + off + ((k.cells.drop off).take m ++ vs).length }, cur', e', fr', hlt2, by rw [hes']; exact ok'.es, by simp [Fam.get_set _ _ _ hfl, hff],
                  by rw [hlt', setRow_other _ _ _ _ hg]; exact ok'.heap, by rw [hlt', hcz']; exact ok'.size, fun hr => by rw [hlt']; exact ok'.own hro, fun hr => by simp [hro] at hr,
                  by rw [hlt']; exact ok'.fit, by simp only; split <;> omega, fun hr => ?_, fun hr i v hi => ?_⟩
                · simp only at hr ⊢
                  split at hr
                  · omega
                  · have := ok'.hw hr; rw [hlen]; omega
                · simp only at hr
                  split at hr
                  · omega
                  · obtain ⟨u, hu, hvr⟩ := ok'.cells hr i v hi
                    rw [hlt']
                    exact ⟨u, hu, hvr.mono hle⟩
            · have hg : (c.loc b').1 ≠ (c.loc b).1 := fun e0 => by
                by_cases hr : f'.ro = false
                · have h1 := (ok'.own hr).1
                  rw [e0, ho] at h1
                  exact hff (Option.some.inj h1).symm
                · have h1 := ok'.ro (by simpa using hr)
                  rw [e0, ho] at h1
                  cases h1
              exact ⟨f', cur', e', fr', ok'.keep hle (by simp [Fam.get_set _ _ _ hfl, hff, ok'.fam]) (setRow_other _ _ _ _ hg) ⟨rfl, rfl⟩⟩
        · simp only at hf'
          rw [Fam.get_set _ _ _ hfl] at hf'
          split at hf'
          · rename_i e0; rw [e0]; exact h.fam _ _ hf
          · exact h.fam _ _ hf'
        · simp only [Ctx.push, setRow_size] at hb' ⊢
          split
          · exact hown.2.1
          · exact h.all b' (by omega)
      · cases hs
    · cases hs
  · cases hs

theorem Rel.grow_new {G : Nat} {w0 w : World} {c : Ctx} {g : Gh} {S S' : St} (h : Rel G w0 c g S w) {b b1 off m : Nat} {vs : List Value} (hs : S.grow b off m vs = some (b1, S'))
    {cur : Array Value} {e : TypeId} (olds us : List Value) (hlo : olds.length = m) (hl : us.length = vs.length)
    (hvo : ∀ (i : Nat) (v u : Value), i < m → (∃ k, S.live b = some k ∧ k.cells[off + i]? = some v) → olds[i]? = some u → VR c v u)
    (hv : ∀ (i : Nat) (v u : Value), vs[i]? = some v → us[i]? = some u → VR c v u) (hcur : ∀ i, i < m + us.length → cur[i]? = (olds ++ us)[i]?) :
    b1 = c.n ∧ vs.all one = true ∧ b < c.n ∧
      ∃ c' g', c.le c' ∧ c'.n = c.n + 1 ∧ c'.loc c.n = (w.heap.size, 0) ∧ c'.es c.n = c.es b ∧ c'.cz w.heap.size = cur.size ∧
        Rel G w0 c' g' S' (w.alloc (.cells cur e)) := by
  unfold St.grow at hs
  split at hs
  · rename_i k hk
    split at hs
    · rename_i f hf
      split at hs
      · rename_i hcnd
        obtain ⟨he, hro, hoff, hone, hbl, hfl⟩ := hcnd
        cases hs
        have hlive : S.live b = some k := by simp [St.live, hk, hf, he]
        obtain ⟨f', cur0, e0, fr, ok⟩ := h.blk b k hk
        have := ok.fam.symm.trans hf
        cases this
        obtain ⟨ho, rfl, hsh⟩ := ok.own hro
        have hn := h.n
        have hll : ((k.cells.drop off).take m).length = m := by rw [List.length_take, List.length_drop]; omega
        have hlen : ((k.cells.drop off).take m ++ vs).length = m + us.length := by rw [List.length_append, hll, hl]
        have hcs : m + us.length ≤ cur.size := by
          rcases Nat.eq_zero_or_pos (m + us.length) with h0 | h0
          · omega
          · have h1 := hcur (m + us.length - 1) (by omega)
            rw [List.getElem?_eq_getElem (by rw [List.length_append]; omega)] at h1
            have := (Array.getElem?_eq_some_iff.1 h1).1
            omega
        have hle : c.le (c.push w.heap.size 0 cur.size (c.es b)) := Ctx.push_le _ _ _ _ _ fun b' hb' e => absurd (h.all b' hb') (by omega)
        have hown := h.own _ _ ho
        have hhw := ok.hw he.symm
        have hx0 : ∀ b', b' < c.n → (c.loc b').1 ≠ w.heap.size := fun b' hb' => Nat.ne_of_lt (h.all b' hb')
        refine ⟨hn, hone, ok.lt, c.push w.heap.size 0 cur.size (c.es b), ⟨fun y => if y = w.heap.size then some k.fam else g.own y, fun y => if y = w.heap.size then k.fo + off else g.sh y⟩, hle, rfl, by simp [Ctx.push], by simp [Ctx.push], by simp [Ctx.push], ?_⟩
        refine ⟨by simp [Ctx.push, hn], ⟨Nat.le_trans h.glob.1 hle.n, fun i hi => (hle.loc i (Nat.lt_of_lt_of_le hi h.glob.1)).trans (h.glob.2 i hi)⟩,
          h.below.alloc h.below.size _, fun b' k' hk' => ?_, fun x φ hx => ?_, fun φ f' hf' => ?_, fun b' hb' => ?_⟩
        · simp only at hk'
          rw [Blk.get_set _ _ _ hbl] at hk'
          by_cases hbb : b' = S.nb
          · rw [if_pos hbb] at hk'
            cases hk'
            have hbn : b' = c.n := hbb.trans hn
            refine ⟨{ f with ep := if k.fo + off + m < f.hw then f.ep + 1 else f.ep, hw := k.fo + off + ((k.cells.drop off).take m ++ vs).length }, cur, e, (0, 0), by simp [Ctx.push, hbn], by simp [Ctx.push, hbn, ok.es], by simp [Fam.get_set _ _ _ hfl],
              by simp only [Ctx.push, hbn, if_true]; exact heap_alloc_new w _, by simp [Ctx.push, hbn], fun _ => by simp [Ctx.push, hbn], fun hr => by simp [hro] at hr,
              by simp only [Ctx.push, hbn, if_true, hlen]; omega, Nat.le_refl _, fun _ => Nat.le_refl _, fun _ i v hi => ?_⟩
            simp only at hi
            simp only [Ctx.push, hbn, if_true, Nat.zero_add]
            have hil := (List.getElem?_eq_some_iff.1 hi).1
            rw [hlen] at hil
            rw [hcur i hil]
            rw [List.getElem?_append, hll] at hi
            rw [List.getElem?_append, hlo]
            split at hi
            · rename_i him
              rw [List.getElem?_take, if_pos him, List.getElem?_drop] at hi
              rw [if_pos him]
              exact ⟨olds[i], List.getElem?_eq_getElem (by omega), (hvo i v olds[i] him ⟨k, hlive, hi⟩ (List.getElem?_eq_getElem (by omega))).mono hle⟩
            · rename_i him
              rw [if_neg him]
              exact ⟨us[i - m], List.getElem?_eq_getElem (by omega), (hv _ _ _ hi (List.getElem?_eq_getElem (by omega))).mono hle⟩
          · rw [if_neg hbb] at hk'
            obtain ⟨f', cur', e', fr', ok'⟩ := h.blk b' k' hk'
            have hlt := h.lt_heap hk'
            by_cases hff : k'.fam = k.fam
            · have hf2 : f' = f := by
                have h1 := ok'.fam
                rw [hff, hf] at h1
                cases h1; rfl
              subst hf2
              have hep := ok'.ep
              have hlt' := hle.loc b' ok'.lt
              have hcz' : (c.push w.heap.size 0 cur.size (c.es b)).cz (c.loc b').1 = c.cz (c.loc b').1 := hle.cz b' ok'.lt
              have hes' := hle.es b' ok'.lt
              have hlt2 := Nat.lt_of_lt_of_le ok'.lt hle.n
              refine ⟨{ f' with ep := if k.fo + off + m < f'.hw then f'.ep + 1 else f'.ep, hw := k.fo + off + ((k.cells.drop off).take m ++ vs).length }, cur', e', fr', hlt2, by rw [hes']; exact ok'.es, by simp [Fam.get_set _ _ _ hfl, hff],
                by rw [hlt', heap_alloc_old w _ _ hlt]; exact ok'.heap, by rw [hlt', hcz']; exact ok'.size, fun hr => by rw [hlt']; simpa [hx0 b' ok'.lt] using ok'.own hro, fun hr => by simp [hro] at hr,
                by rw [hlt']; exact ok'.fit, by simp only; split <;> omega, fun hr => ?_, fun hr i v hi => ?_⟩
              · simp only at hr ⊢
                split at hr
                · omega
                · have := ok'.hw hr; rw [hlen]; omega
              · simp only at hr
                split at hr
                · omega
                · obtain ⟨u, hu, hvr⟩ := ok'.cells hr i v hi
                  rw [hlt']
                  exact ⟨u, hu, hvr.mono hle⟩
            · exact ⟨f', cur', e', fr', ok'.keep hle (by simp [Fam.get_set _ _ _ hfl, hff, ok'.fam]) (heap_alloc_old w _ _ hlt) (by simp [hx0 b' ok'.lt])⟩
        · simp only at hx
          split at hx
          · rename_i e0
            cases hx
            exact ⟨by rw [e0]; exact h.below.size, by simp [e0], h.fam _ _ hf⟩
          · obtain ⟨h1, h2, h3⟩ := h.own x φ hx
            exact ⟨h1, by simp; omega, h3⟩
        · simp only at hf'
          rw [Fam.get_set _ _ _ hfl] at hf'
          split at hf'
          · rename_i e0; rw [e0]; exact h.fam _ _ hf
          · exact h.fam _ _ hf'
        · simp only [Ctx.push, World.size_alloc] at hb' ⊢
          split
          · simp
          · exact Nat.lt_succ_of_lt (h.all b' (by omega))
      · cases hs
    · cases hs
  · cases hs

end Go.Am

namespace Go.Am
open Go Go.RowKit

/-- A computation that looks at the program alone. -/
def pureRun (P : Program) {α : Type} : Sem α → Option α
  | .pure a => some a
  | .program k => pureRun P (k P)
  | _ => none

theorem pureRun_run {P : Program} {α : Type} : ∀ (s : Sem α) (x : α), pureRun P s = some x → ∀ w, s.run P w = .ok x w := by
  intro s
  induction s with
  | pure a => intro x h w; cases h; rfl
  | program k ih => intro x h w; exact ih P x h w
  | _ => intro x h; cases h

/-- What has been asked of an operation: in the model it yields this value, in a world that the new abstract memory stands for. -/
def Done (P : Program) (G : Nat) (w0 : World) (ac : Act) (o : Oper) (c : Ctx) (w : World) (v : Value) (S' : St) : Prop :=
  ∃ nx w' c' g', (execOp ac.eval o).run P w = .ok nx w' ∧ c.le c' ∧ Rel G w0 c' g' S' w' ∧ ((∃ u, nx = .value u ∧ VR c' v u) ∨ (nx = .skip ∧ v = undef))

theorem done_value {P : Program} {G : Nat} {w0 w w' : World} {ac : Act} {o : Oper} {c c' : Ctx} {g' : Gh} {v u : Value} {S' : St} {s : Sem Value} (he : execOp ac.eval o = (do pure (.value (← s))))
    (hr : s.run P w = .ok u w') (hc : c.le c') (hR : Rel G w0 c' g' S' w') (hv : VR c' v u) : Done P G w0 ac o c w v S' :=
  ⟨.value u, w', c', g', by rw [he]; simp [hr], hc, hR, .inl ⟨u, rfl, hv⟩⟩

/-- Frames. -/
structure ActR (c : Ctx) (a ac : Act) : Prop where
  size : a.tmps.size = ac.tmps.size
  get : ∀ (i : Nat) (x y : Value), a.tmps[i]? = some x → ac.tmps[i]? = some y → VR c x y
  da : a.defers = []
  dc : ac.defers = []

theorem ActR.mono {c c' : Ctx} (hc : c.le c') {a ac : Act} (h : ActR c a ac) : ActR c' a ac := ⟨h.size, fun i x y hx hy => (h.get i x y hx hy).mono hc, h.da, h.dc⟩

theorem VR.undef (c : Ctx) : VR c Go.undef Go.undef := .tuple _ _ rfl fun i x y hx _ => by simp at hx

theorem ActR.getD {c : Ctx} {a ac : Act} (h : ActR c a ac) (i : Nat) : VR c (a.tmps.getD i Go.undef) (ac.tmps.getD i Go.undef) := by
  by_cases hi : i < a.tmps.size
  · have h2 : i < ac.tmps.size := h.size ▸ hi
    simp only [Array.getD, hi, h2, dif_pos]
    exact h.get i _ _ (Array.getElem?_eq_getElem hi) (Array.getElem?_eq_getElem h2)
  · have h2 : ¬ i < ac.tmps.size := h.size ▸ hi
    simp only [Array.getD, hi, h2]
    exact VR.undef c

theorem ActR.put {c : Ctx} {a ac : Act} (h : ActR c a ac) (d : Option Tmp) {x y : Value} (hv : VR c x y) : ActR c (a.put d x) (ac.put d y) := by
  cases d with
  | none => exact h
  | some d =>
    refine ⟨by simp [Act.put, h.size], fun i x' y' hx hy => ?_, h.da, h.dc⟩
    simp only [Act.put] at hx hy
    rw [Array.getElem?_setIfInBounds] at hx hy
    split at hx
    · rename_i e
      rw [if_pos e] at hy
      split at hx
      · split at hy
        · cases hx; cases hy; exact hv
        · cases hy
      · cases hx
    · rename_i e
      rw [if_neg e] at hy
      exact h.get i _ _ hx hy

def okOpnd (G : Nat) : Operand → Bool
  | .const v => af 8 v
  | .global g => decide (g < G)
  | _ => true

theorem eval_rel {G : Nat} {w0 w : World} {c : Ctx} {g : Gh} {S : St} (hR : Rel G w0 c g S w) {a ac : Act} (h : ActR c a ac) {x : Operand} (hx : okOpnd G x = true) : VR c (a.eval x) (ac.eval x) := by
  cases x with
  | tmp t => exact h.getD t
  | const v => exact af_refl c 8 v hx
  | global i =>
    have hi : i < G := by simpa [okOpnd] using hx
    have := VR.ptr (c := c) i 0 (Nat.lt_of_lt_of_le hi hR.glob.1)
    rw [hR.glob.2 i hi] at this
    exact this
  | func f => exact .func _ _ _ _ _ rfl (fun i x y hx _ => by simp at hx) rfl (fun i x y hx _ => by simp at hx)

/-- An operation on values without addresses that looks at the program alone. -/
def evPure (P : Program) (a : Act) (o : Oper) : Option Value :=
  if o.op.operands.toList.all (fun x => af 8 (a.eval x)) = true then
    match o.op with
    | .select .. => none
    | _ => match pureRun P (execOp a.eval o) with
      | some (.value v) => if af 8 v = true then some v else none
      | _ => none
  else none

theorem evPure_done {P : Program} {G : Nat} {w0 w : World} {c : Ctx} {g : Gh} {S : St} (hR : Rel G w0 c g S w) {a ac : Act} (h : ActR c a ac) {o : Oper} (ho : o.op.operands.toList.all (okOpnd G) = true) {v : Value}
    (he : evPure P a o = some v) : Done P G w0 ac o c w v S := by
  unfold evPure at he
  split at he
  · rename_i haf
    have hsel : ∀ cs b, o.op ≠ .select cs b := fun cs b e => by rw [e] at he; cases he
    have hop : ∀ x ∈ o.op.operands, ac.eval x = a.eval x := fun x hx => by
      rw [List.all_eq_true] at ho haf
      have hm : x ∈ o.op.operands.toList := Array.mem_toList_iff.2 hx
      exact af_eq 8 _ _ (haf x hm) (eval_rel hR h (ho x hm))
    have key : ∀ (r : Option Value), (match pureRun P (execOp a.eval o) with
      | some (.value v) => if af 8 v = true then some v else none
      | _ => none) = some v → Done P G w0 ac o c w v S := fun _ hk => by
      split at hk
      · rename_i v' hv'
        split at hk
        · rename_i hav
          cases hk
          exact ⟨.value v, w, c, g, by rw [execOp_congr o hsel hop]; exact pureRun_run _ _ hv' w, Ctx.le.refl _, hR, .inl ⟨v, rfl, af_refl c 8 v hav⟩⟩
        · cases hk
      · cases hk
    split at he
    · cases he
    · exact key none he
  · cases he

theorem VR.bool_inv {c : Ctx} {b : Bool} {u : Value} (h : VR c (.bool b) u) : u = .bool b := by cases h; rfl
theorem VR.int_inv {c : Ctx} {k : IntKind} {n : Int} {u : Value} (h : VR c (.int k n) u) : u = .int k n := by cases h; rfl

def isAggA (P : Program) (t : TypeId) : Option Bool :=
  match P.underlying t with
  | some (.struct _) | some (.array _ _) => some true
  | some _ => some false
  | none => none

theorem run_isAgg {P : Program} {t : TypeId} {b : Bool} (h : isAggA P t = some b) (w : World) : (isAgg t).run P w = .ok b w := by
  unfold isAggA at h
  unfold isAgg
  split at h
  · rename_i e; cases h; simp [run_underlying e]
  · rename_i e; cases h; simp [run_underlying e]
  · rename_i d h1 h2 e
    cases h
    simp only [Sem.run_bind, run_underlying e, Result.andThen_ok]
    rfl
  · cases h

theorem run_sizeOf {P : Program} {t : TypeId} {i : TypeInfo} (h : P.info? t = some i) (w : World) : (sizeOf t).run P w = .ok i.size w := by
  simp [sizeOf, typeInfo, h]

/-- Reading a variable. -/
def ldA (P : Program) (S : St) (t : TypeId) (b off : Nat) : Option Value :=
  match isAggA P t, P.info? t with
  | some true, some i => (S.rd b off i.size).map fun vs => .agg vs.toArray
  | some false, some _ => match S.rd b off 1 with
    | some [v] => some v
    | _ => none
  | _, _ => none

theorem ldA_run {P : Program} {G : Nat} {w0 w : World} {c : Ctx} {g : Gh} {S : St} (hR : Rel G w0 c g S w) {t : TypeId} {b off : Nat} {v : Value} (h : ldA P S t b off = some v) :
    b < c.n ∧ ∃ u, (loadVar t ⟨(c.loc b).1, (c.loc b).2 + off, none⟩).run P w = .ok u w ∧ VR c v u := by
  unfold ldA at h
  split at h
  · rename_i i ha hi
    rw [Option.map_eq_some_iff] at h
    obtain ⟨vs, hvs, rfl⟩ := h
    obtain ⟨hb, hl, us, hul, hc, hv⟩ := hR.rd hvs
    refine ⟨hb, .agg us.toArray, ?_, .agg _ _ (by simp [hl, hul]) fun j x y hx hy => hv j x y (by simpa using hx) (by simpa using hy)⟩
    have := run_loadCells_list (P := P) w ⟨(c.loc b).1, (c.loc b).2 + off, none⟩ us (fun j u hu => by rw [Addr.add_lit]; exact hc j u hu)
    rw [hul] at this
    simp [loadVar, run_isAgg ha, run_sizeOf hi, this]
  · rename_i i ha hi
    split at h
    · rename_i v' hvs
      cases h
      obtain ⟨hb, hl, us, hul, hc, hv⟩ := hR.rd hvs
      match us, hul with
      | [u], _ =>
        have h0 := hc 0 u rfl
        rw [Nat.add_zero] at h0
        refine ⟨hb, u, ?_, hv 0 _ _ rfl rfl⟩
        simp [loadVar, run_isAgg ha, load, Sem.run, h0]
    · cases h
  · cases h

theorem VR.cells {c : Ctx} {v u : Value} (h : VR c v u) : v.cells.size = u.cells.size ∧ ∀ (i : Nat) (x y : Value), v.cells[i]? = some x → u.cells[i]? = some y → VR c x y := by
  have single : ∀ x y : Value, VR c x y → (#[x] : Array Value).size = (#[y] : Array Value).size ∧ ∀ (i : Nat) (x' y' : Value), (#[x] : Array Value)[i]? = some x' → (#[y] : Array Value)[i]? = some y' → VR c x' y' := fun x y hxy =>
    ⟨rfl, fun i x' y' hx hy => by
      cases i with
      | zero => simp at hx hy; rw [← hx, ← hy]; exact hxy
      | succ i => simp at hx⟩
  cases h with
  | agg xs ys hl hh => exact ⟨hl, hh⟩
  | _ => exact single _ _ (by constructor <;> assumption)

theorem VR.one {c : Ctx} {v u : Value} (h : VR c v u) : one u = one v := by cases h <;> rfl
theorem one_eq (v : Value) : v.oneCell' = one v := by cases v <;> rfl

/-- Writing a variable. -/
def stA (P : Program) (S : St) (t : TypeId) (b off : Nat) (v : Value) : Option St :=
  match P.info? t with
  | some i => if v.cells.size = i.size then S.wr b off v.cells.toList else none
  | none => none

theorem list_one {c : Ctx} {vs us : List Value} (hl : us.length = vs.length) (hv : ∀ (i : Nat) (v u : Value), vs[i]? = some v → us[i]? = some u → VR c v u) (h : vs.all Am.one = true) : ∀ u ∈ us, u.oneCell' = true := by
  intro u hu
  obtain ⟨i, hi, rfl⟩ := List.mem_iff_getElem.1 hu
  rw [one_eq, (hv i _ _ (List.getElem?_eq_getElem (by omega)) (List.getElem?_eq_getElem hi)).one]
  rw [List.all_eq_true] at h
  exact h _ (List.getElem_mem _)

theorem stA_run {P : Program} {G : Nat} {w0 w : World} {c : Ctx} {g : Gh} {S S' : St} (hR : Rel G w0 c g S w) {t : TypeId} {b off : Nat} {v u : Value} (h : stA P S t b off v = some S') (hv : VR c v u) :
    b < c.n ∧ ∃ w', (storeVar t ⟨(c.loc b).1, (c.loc b).2 + off, none⟩ u).run P w = .ok () w' ∧ Rel G w0 c g S' w' := by
  unfold stA at h
  split at h
  · rename_i i hi
    split at h
    · rename_i hsz
      obtain ⟨hcs, hcv⟩ := hv.cells
      have hl : u.cells.toList.length = v.cells.toList.length := by simpa using hcs.symm
      have hvv : ∀ (i : Nat) (x y : Value), v.cells.toList[i]? = some x → u.cells.toList[i]? = some y → VR c x y := fun i x y hx hy => hcv i x y (by simpa using hx) (by simpa using hy)
      obtain ⟨cur, e, hh, hfit, hb, hone, hR'⟩ := hR.wr h hl hvv
      refine ⟨hb, _, ?_, hR'⟩
      have := run_storeCells_at P (c.loc b).1 ((c.loc b).2 + off) e u.cells.toList 0 cur w hh (by simpa using hfit) (list_one hl hvv hone)
      simp only [Nat.add_zero] at this
      simp only [storeVar, Sem.run_bind, run_sizeOf hi, Result.andThen_ok]
      rw [if_neg (by rw [← hcs, hsz]; simp)]
      exact this
    · cases h
  · cases h


/-- A new variable, or a new row of cells. -/
theorem alloc_run {P : Program} {G : Nat} {w0 w : World} {c : Ctx} {g : Gh} {S S' : St} (hR : Rel G w0 c g S w) {sz b : Nat} {cells : List Value} (h : S.alloc sz cells = some (b, S')) {us : Array Value} (hl : cells.length = us.size)
    (hv : ∀ (i : Nat) (v u : Value), cells[i]? = some v → us[i]? = some u → VR c v u) (e : TypeId) :
    ∃ c' g', (newRow e us).run P w = .ok ⟨w.heap.size, 0, none⟩ (w.alloc (.cells us e)) ∧ c.le c' ∧ Rel G w0 c' g' S' (w.alloc (.cells us e)) ∧ b < c'.n ∧ c'.loc b = (w.heap.size, 0) ∧ c'.es b = sz ∧ c'.cz w.heap.size = us.size := by
  obtain ⟨rfl, c', g', hle, hn, hloc, hes, hcz, hR'⟩ := hR.alloc h (cur := us) (e := e) (by omega) hv
  exact ⟨c', g', by simp [newRow, newObj, Sem.run], hle, hR', by omega, hloc, hes, hcz⟩

def boxA (S : St) (v : Value) : Option (Value × St) :=
  match S.alloc v.cells.size v.cells.toList with
  | some (b, S') => some (.pointer (some ⟨b, 0, none⟩), S')
  | none => none

theorem boxA_run {P : Program} {G : Nat} {w0 w : World} {c : Ctx} {g : Gh} {S S' : St} (hR : Rel G w0 c g S w) {v u p : Value} (h : boxA S v = some (p, S')) (hv : VR c v u) (e : TypeId) :
    ∃ w' c' g' q, (Instr.box e u).run P w = .ok q w' ∧ c.le c' ∧ Rel G w0 c' g' S' w' ∧ VR c' p q := by
  unfold boxA at h
  split at h
  · rename_i b S1 hs
    cases h
    obtain ⟨hcs, hcv⟩ := hv.cells
    obtain ⟨c', g', hr, hle, hR', hb, hloc, _, _⟩ := alloc_run (P := P) hR hs (us := u.cells) (by simpa using hcs) (fun i x y hx hy => hcv i x y (by simpa using hx) hy) e
    have hp := VR.ptr (c := c') b 0 hb
    rw [hloc] at hp
    exact ⟨_, c', g', _, by simp [Instr.box, newVar, hr], hle, hR', hp⟩
  · cases h

/-- The parts of a literal. -/
theorem fill_rel {c : Ctx} (place : Nat → Option (Nat × Nat)) : ∀ (parts parts' : List (Nat × Value)) (cs cs' : Array Value) (out : Array Value),
    parts.length = parts'.length → (∀ (i : Nat) (x y : Nat × Value), parts[i]? = some x → parts'[i]? = some y → x.1 = y.1 ∧ VR c x.2 y.2) →
    cs.size = cs'.size → (∀ (i : Nat) (x y : Value), cs[i]? = some x → cs'[i]? = some y → VR c x y) → Instr.fill place cs parts = some out →
    ∃ out', Instr.fill place cs' parts' = some out' ∧ out.size = out'.size ∧ ∀ (i : Nat) (x y : Value), out[i]? = some x → out'[i]? = some y → VR c x y := by
  intro parts
  induction parts with
  | nil =>
    intro parts' cs cs' out hl _ hs hc h
    have : parts' = [] := List.eq_nil_of_length_eq_zero (by simpa using hl.symm)
    subst this
    simp only [Instr.fill, Option.some.injEq] at h ⊢
    subst h
    exact ⟨cs', rfl, hs, hc⟩
  | cons p rest ih =>
    intro parts' cs cs' out hl hp hs hc h
    match parts', hl with
    | q :: rest', hl =>
      obtain ⟨hpq, hv⟩ := hp 0 p q rfl rfl
      obtain ⟨i, v⟩ := p
      obtain ⟨i', v'⟩ := q
      simp only at hpq hv
      subst hpq
      obtain ⟨hcs, hcv⟩ := hv.cells
      simp only [Instr.fill] at h ⊢
      cases hpl : place i with
      | none => rw [hpl] at h; cases h
      | some os =>
        obtain ⟨off, size⟩ := os
        rw [hpl] at h
        simp only at h ⊢
        rw [← hcs, ← hs]
        split at h
        · cases h
        · rename_i hnot
          rw [if_neg hnot]
          have fold : ∀ (l l' : List (Value × Nat)) (ds ds' : Array Value), l.length = l'.length → (∀ (i : Nat) (x y : Value × Nat), l[i]? = some x → l'[i]? = some y → x.2 = y.2 ∧ VR c x.1 y.1) →
              ds.size = ds'.size → (∀ (i : Nat) (x y : Value), ds[i]? = some x → ds'[i]? = some y → VR c x y) →
              (l.foldl (fun cs (x : Value × Nat) => cs.setIfInBounds (off + x.2) x.1) ds).size = (l'.foldl (fun cs (x : Value × Nat) => cs.setIfInBounds (off + x.2) x.1) ds').size ∧
              ∀ (i : Nat) (x y : Value), (l.foldl (fun cs (x : Value × Nat) => cs.setIfInBounds (off + x.2) x.1) ds)[i]? = some x → (l'.foldl (fun cs (x : Value × Nat) => cs.setIfInBounds (off + x.2) x.1) ds')[i]? = some y → VR c x y := by
            intro l
            induction l with
            | nil =>
              intro l' ds ds' hll _ h1 h2
              have : l' = [] := List.eq_nil_of_length_eq_zero (by simpa using hll.symm)
              subst this
              exact ⟨h1, h2⟩
            | cons a l ihl =>
              intro l' ds ds' hll hpp h1 h2
              match l', hll with
              | a' :: l', hll =>
                obtain ⟨e1, e2⟩ := hpp 0 a a' rfl rfl
                simp only [List.foldl_cons]
                refine ihl l' _ _ (by simpa using hll) (fun i x y hx hy => hpp (i + 1) x y hx hy) (by simpa using h1) fun i x y hx hy => ?_
                rw [Array.getElem?_setIfInBounds] at hx hy
                rw [e1] at hx
                split at hx
                · rename_i e
                  rw [if_pos e] at hy
                  split at hx
                  · split at hy
                    · cases hx; cases hy; exact e2
                    · cases hy
                  · cases hx
                · rename_i e
                  rw [if_neg e] at hy
                  exact h2 i x y hx hy
          obtain ⟨f1, f2⟩ := fold v.cells.zipIdx.toList v'.cells.zipIdx.toList cs cs' (by simp [hcs]) (fun i x y hx hy => by
            simp only [Array.toList_zipIdx, List.getElem?_zipIdx, Option.map_eq_some_iff] at hx hy
            obtain ⟨x', hx', rfl⟩ := hx
            obtain ⟨y', hy', rfl⟩ := hy
            exact ⟨rfl, hcv i x' y' (by simpa using hx') (by simpa using hy')⟩) hs hc
          have e1 : ∀ (v : Value) (cs : Array Value), (v.cells.zipIdx.foldl (fun cs (x : Value × Nat) => cs.setIfInBounds (off + x.2) x.1) cs) = (v.cells.zipIdx.toList.foldl (fun cs (x : Value × Nat) => cs.setIfInBounds (off + x.2) x.1) cs) := fun v cs => by
            rw [Array.foldl_toList]
          exact ih rest' _ _ out (by simpa using hl) (fun i x y hx hy => hp (i + 1) x y hx hy) (by rw [e1, e1]; exact f1) (by rw [e1, e1]; exact f2) h

end Go.Am

namespace Go.Am
open Go Go.RowKit

variable {P : Program} {G : Nat} {w0 w : World} {c : Ctx} {g : Gh} {S S' : St} {a ac : Act} {o : Oper} {v : Value}

/-- What every rule has: the memories, the frames, operands that may be. -/
structure Pre (G : Nat) (w0 : World) (c : Ctx) (g : Gh) (S : St) (w : World) (a ac : Act) (o : Oper) : Prop where
  rel : Rel G w0 c g S w
  act : ActR c a ac
  opnd : o.op.operands.toList.all (okOpnd G) = true

theorem Pre.ev (h : Pre G w0 c g S w a ac o) {x : Operand} (hx : x ∈ o.op.operands) : VR c (a.eval x) (ac.eval x) :=
  eval_rel h.rel h.act (by have := h.opnd; rw [List.all_eq_true] at this; exact this x (Array.mem_toList_iff.2 hx))

theorem move_done (h : Pre G w0 c g S w a ac o) (x : Operand) (ho : o.op = .move x ∨ o.op = .assign x) : Done P G w0 ac o c w (a.eval x) S := by
  have hv : VR c (a.eval x) (ac.eval x) := h.ev (by rcases ho with e | e <;> simp [e, Op.operands])
  refine ⟨.value (ac.eval x), w, c, g, ?_, Ctx.le.refl _, h.rel, .inl ⟨_, rfl, hv⟩⟩
  rcases ho with e | e <;> simp [execOp, e]

theorem pick_done (h : Pre G w0 c g S w a ac o) (cc x y : Operand) (ho : o.op = .pick cc x y) (b : Bool) (hb : a.eval cc = .bool b) : Done P G w0 ac o c w (cond b (a.eval x) (a.eval y)) S := by
  have hc := h.ev (x := cc) (by simp [ho, Op.operands])
  have hx := h.ev (x := x) (by simp [ho, Op.operands])
  have hy := h.ev (x := y) (by simp [ho, Op.operands])
  rw [hb] at hc
  refine ⟨.value (cond b (ac.eval x) (ac.eval y)), w, c, g, ?_, Ctx.le.refl _, h.rel, .inl ⟨_, rfl, ?_⟩⟩
  · cases b <;> simp [execOp, ho, hc.bool_inv, asBool]
  · cases b
    · exact hy
    · exact hx

theorem extract_done (h : Pre G w0 c g S w a ac o) (x : Operand) (i : Nat) (ho : o.op = .extract x i) (vs : Array Value) (hx : a.eval x = .tuple vs) (hv : vs[i]? = some v) : Done P G w0 ac o c w v S := by
  have hc := h.ev (x := x) (by simp [ho, Op.operands])
  rw [hx] at hc
  generalize hu : ac.eval x = u at hc
  cases hc with
  | tuple _ ys hl hh =>
    have hi : i < ys.size := by rw [← hl]; exact (Array.getElem?_eq_some_iff.1 hv).1
    refine ⟨.value ys[i], w, c, g, ?_, Ctx.le.refl _, h.rel, .inl ⟨_, rfl, hh i v _ hv (Array.getElem?_eq_getElem hi)⟩⟩
    simp [execOp, ho, hu, Instr.extract, hi]

theorem load_done (h : Pre G w0 c g S w a ac o) (t : TypeId) (x : Operand) (ho : o.op = .load t x) (b off : Nat) (hx : a.eval x = .pointer (some ⟨b, off, none⟩)) (hv : ldA P S t b off = some v) : Done P G w0 ac o c w v S := by
  have hc := h.ev (x := x) (by simp [ho, Op.operands])
  rw [hx] at hc
  obtain ⟨hb, u, hr, hvr⟩ := ldA_run h.rel hv
  generalize hu : ac.eval x = ux at hc
  cases hc with
  | ptr _ _ hb =>
    refine done_value (s := Instr.loadAt t (ac.eval x)) (u := u) (by simp only [execOp, ho]) ?_ (Ctx.le.refl _) h.rel hvr
    simp [hu, Instr.loadAt, Instr.sureAddr, hr]

theorem store_done (h : Pre G w0 c g S w a ac o) (t : TypeId) (x y : Operand) (ho : o.op = .store t x y) (b off : Nat) (hx : a.eval x = .pointer (some ⟨b, off, none⟩)) (hv : stA P S t b off (a.eval y) = some S') :
    Done P G w0 ac o c w undef S' := by
  have hc := h.ev (x := x) (by simp [ho, Op.operands])
  have hy := h.ev (x := y) (by simp [ho, Op.operands])
  rw [hx] at hc
  obtain ⟨hb, w', hr, hR'⟩ := stA_run (P := P) h.rel hv hy
  generalize hu : ac.eval x = ux at hc
  cases hc with
  | ptr _ _ hb =>
    refine ⟨.skip, w', c, g, ?_, Ctx.le.refl _, hR', .inr ⟨rfl, rfl⟩⟩
    simp [execOp, ho, hu, Instr.storeAt, Instr.sureAddr, hr]

theorem box_done (h : Pre G w0 c g S w a ac o) (e : TypeId) (x : Operand) (ho : o.op = .box e x) (hv : boxA S (a.eval x) = some (v, S')) : Done P G w0 ac o c w v S' := by
  have hc := h.ev (x := x) (by simp [ho, Op.operands])
  obtain ⟨w', c', g', q, hr, hle, hR', hq⟩ := boxA_run (P := P) h.rel hv hc e
  exact done_value (s := Instr.box e (ac.eval x)) (by simp only [execOp, ho]) hr hle hR' hq

theorem alloc_done (h : Pre G w0 c g S w a ac o) (e : TypeId) (ho : o.op = .alloc e) (i : TypeInfo) (hi : P.info? e = some i) (z : Value) (hz : i.zero = some z) (haf : af 8 z = true) (hv : boxA S z = some (v, S')) : Done P G w0 ac o c w v S' := by
  obtain ⟨w', c', g', q, hr, hle, hR', hq⟩ := boxA_run (P := P) h.rel hv (af_refl c 8 z haf) e
  refine done_value (s := Instr.alloc e true (.tuple #[])) (by simp only [execOp, ho]) ?_ hle hR' hq
  simp only [Instr.alloc, Sem.run_bind, zeroValue, typeInfo, program, hi, hz]
  simpa [Sem.run, Instr.box, hi, hz] using hr

/-- The address of an element. -/
def ixA (P : Program) (t : TypeId) (x : Value) (i : Int) : Option Value :=
  match P.underlying t, x with
  | some (.array len e), .pointer (some ⟨b, off, none⟩) => match P.info? e with
    | some j => if 0 ≤ i ∧ i < len then some (.pointer (some ⟨b, off + i.toNat * j.size, none⟩)) else none
    | none => none
  | some (.slice e), .slice (some ⟨b, off, none⟩) n _ => match P.info? e with
    | some j => if 0 ≤ i ∧ i < n then some (.pointer (some ⟨b, off + i.toNat * j.size, none⟩)) else none
    | none => none
  | _, _ => none

theorem indexAddr_done (h : Pre G w0 c g S w a ac o) (t : TypeId) (x y : Operand) (ho : o.op = .indexAddr t x y) (k : IntKind) (i : Int) (hy : a.eval y = .int k i) (hv : ixA P t (a.eval x) i = some v) : Done P G w0 ac o c w v S := by
  have hc := h.ev (x := x) (by simp [ho, Op.operands])
  have hcy := h.ev (x := y) (by simp [ho, Op.operands])
  rw [hy] at hcy
  have hiy := hcy.int_inv
  unfold ixA at hv
  split at hv
  · rename_i len e b off hu hx
    split at hv
    · rename_i j hj
      split at hv
      · rename_i hb
        cases hv
        rw [hx] at hc
        generalize hux : ac.eval x = ux at hc
        cases hc with
        | ptr _ _ hbn =>
          refine done_value (s := Instr.indexAt t (ac.eval x) (ac.eval y)) (u := .pointer (some ⟨(c.loc b).1, (c.loc b).2 + off + i.toNat * j.size, none⟩)) (by simp only [execOp, ho]) ?_ (Ctx.le.refl _) h.rel (by rw [Nat.add_assoc]; exact .ptr b _ hbn)
          simp [hux, hiy, Instr.indexAt, asIntOf, run_underlying hu, Instr.sureAddr, hb, run_sizeOf hj, Addr.add_lit]
      · cases hv
    · cases hv
  · rename_i e b off n k' hu hx
    split at hv
    · rename_i j hj
      split at hv
      · rename_i hb
        cases hv
        rw [hx] at hc
        generalize hux : ac.eval x = ux at hc
        cases hc with
        | slice _ _ _ _ m hbn hn hk hcap =>
          refine done_value (s := Instr.indexAt t (ac.eval x) (ac.eval y)) (u := .pointer (some ⟨(c.loc b).1, (c.loc b).2 + off + i.toNat * j.size, none⟩)) (by simp only [execOp, ho]) ?_ (Ctx.le.refl _) h.rel (by rw [Nat.add_assoc]; exact .ptr b _ hbn)
          simp [hux, hiy, Instr.indexAt, asIntOf, run_underlying hu, hb, run_sizeOf hj, Addr.add_lit]
        | empty => omega
      · cases hv
    · cases hv
  · cases hv

theorem fieldAddr_done (h : Pre G w0 c g S w a ac o) (t : TypeId) (x : Operand) (f : Nat) (ho : o.op = .fieldAddr t x f) (fs : Array Field) (hu : P.underlying t = some (.struct fs)) (fd : Field) (hf : fs[f]? = some fd) (j : TypeInfo) (hj : P.info? fd.type = some j) (hsz : j.size ≠ 0)
    (b off : Nat) (hx : a.eval x = .pointer (some ⟨b, off, none⟩)) : Done P G w0 ac o c w (.pointer (some ⟨b, off + fd.offset, none⟩)) S := by
  have hc := h.ev (x := x) (by simp [ho, Op.operands])
  rw [hx] at hc
  generalize hux : ac.eval x = ux at hc
  cases hc with
  | ptr _ _ hbn =>
    refine done_value (s := Instr.fieldAt t (ac.eval x) f) (u := .pointer (some ⟨(c.loc b).1, (c.loc b).2 + off + fd.offset, none⟩)) (by simp only [execOp, ho]) ?_ (Ctx.le.refl _) h.rel (by rw [Nat.add_assoc]; exact .ptr b _ hbn)
    simp [hux, Instr.fieldAt, run_underlying hu, hf, Instr.sureAddr, fieldPlace, run_sizeOf hj, hsz, Addr.add_lit]

theorem nilCheck_done (h : Pre G w0 c g S w a ac o) (x : Operand) (ho : o.op = .nilCheck x) (ad : Addr) (hx : a.eval x = .pointer (some ad)) : Done P G w0 ac o c w (.pointer (some ad)) S := by
  have hc := h.ev (x := x) (by simp [ho, Op.operands])
  rw [hx] at hc
  generalize hux : ac.eval x = ux at hc
  cases hc with
  | ptr b off hbn =>
    refine ⟨.value _, w, c, g, ?_, Ctx.le.refl _, h.rel, .inl ⟨_, rfl, .ptr b off hbn⟩⟩
    simp [execOp, ho, hux]

/-- A part of a struct's or an array's cells. -/
def partA (P : Program) (t : TypeId) (cs : Array Value) (off : Nat) : Option Value :=
  match isAggA P t, P.info? t with
  | some true, some i => some (.agg (cs.extract off (off + i.size)))
  | some false, some _ => cs[off]?
  | _, _ => none

theorem partA_run {t : TypeId} {xs ys : Array Value} {off : Nat} {v : Value} (hl : xs.size = ys.size) (hh : ∀ (i : Nat) (x y : Value), xs[i]? = some x → ys[i]? = some y → VR c x y) (h : partA P t xs off = some v) :
    ∃ u, (∀ w, (part t ys off).run P w = .ok u w) ∧ VR c v u := by
  unfold partA at h
  split at h
  · rename_i i ha hi
    cases h
    refine ⟨.agg (ys.extract off (off + i.size)), fun w => by simp [part, run_isAgg ha, run_sizeOf hi], .agg _ _ (by simp [hl]) fun j x y hx hy => ?_⟩
    rw [Array.getElem?_extract] at hx hy
    rw [hl] at hx
    split at hx
    · rename_i hj; rw [if_pos hj] at hy; exact hh _ _ _ hx hy
    · cases hx
  · rename_i i ha hi
    have hoff : off < ys.size := by rw [← hl]; exact (Array.getElem?_eq_some_iff.1 h).1
    exact ⟨ys[off], fun w => by simp [part, run_isAgg ha, hoff], hh off v _ h (Array.getElem?_eq_getElem hoff)⟩
  · cases h

theorem field_done (h : Pre G w0 c g S w a ac o) (t : TypeId) (x : Operand) (f : Nat) (ho : o.op = .field t x f) (fs : Array Field) (hu : P.underlying t = some (.struct fs)) (fd : Field) (hf : fs[f]? = some fd) (cs : Array Value) (hx : a.eval x = .agg cs)
    (hv : partA P fd.type cs fd.offset = some v) : Done P G w0 ac o c w v S := by
  have hc := h.ev (x := x) (by simp [ho, Op.operands])
  rw [hx] at hc
  generalize hux : ac.eval x = ux at hc
  cases hc with
  | agg _ ys hl hh =>
    obtain ⟨u, hr, hvr⟩ := partA_run hl hh hv
    refine done_value (s := Instr.field t (ac.eval x) f) (u := u) (by simp only [execOp, ho]) ?_ (Ctx.le.refl _) h.rel hvr
    simp [hux, Instr.field, run_underlying hu, hf, asAgg, hr]

theorem index_done (h : Pre G w0 c g S w a ac o) (t : TypeId) (x y : Operand) (ho : o.op = .index t x y) (len : Nat) (e : TypeId) (hu : P.underlying t = some (.array len e)) (j : TypeInfo) (hj : P.info? e = some j) (cs : Array Value) (hx : a.eval x = .agg cs)
    (k : IntKind) (i : Int) (hy : a.eval y = .int k i) (hi : 0 ≤ i ∧ i < len) (hv : partA P e cs (i.toNat * j.size) = some v) : Done P G w0 ac o c w v S := by
  have hc := h.ev (x := x) (by simp [ho, Op.operands])
  have hcy := h.ev (x := y) (by simp [ho, Op.operands])
  rw [hy] at hcy
  have hiy := hcy.int_inv
  rw [hx] at hc
  generalize hux : ac.eval x = ux at hc
  cases hc with
  | agg _ ys hl hh =>
    obtain ⟨u, hr, hvr⟩ := partA_run hl hh hv
    refine done_value (s := Instr.index t (ac.eval x) (ac.eval y)) (u := u) (by simp only [execOp, ho]) ?_ (Ctx.le.refl _) h.rel hvr
    simp [hux, hiy, Instr.index, asIntOf, run_underlying hu, hi, run_sizeOf hj, hr]

end Go.Am

namespace Go.Am
open Go Go.RowKit

variable {P : Program} {G : Nat} {w0 w : World} {c : Ctx} {g : Gh} {S S' : St} {a ac : Act} {o : Oper} {v : Value}

theorem parts_rel (h : Pre G w0 c g S w a ac o) (parts : Array (Nat × Operand)) (hop : ∀ p ∈ parts, p.2 ∈ o.op.operands) :
    (parts.map fun (i, x) => (i, a.eval x)).toList.length = (parts.map fun (i, x) => (i, ac.eval x)).toList.length ∧
    ∀ (i : Nat) (x y : Nat × Value), (parts.map fun (i, x) => (i, a.eval x)).toList[i]? = some x → (parts.map fun (i, x) => (i, ac.eval x)).toList[i]? = some y → x.1 = y.1 ∧ VR c x.2 y.2 := by
  refine ⟨by simp, fun i x y hx hy => ?_⟩
  simp only [Array.toList_map, List.getElem?_map, Option.map_eq_some_iff] at hx hy
  obtain ⟨p, hp, rfl⟩ := hx
  obtain ⟨q, hq, rfl⟩ := hy
  rw [hp] at hq
  cases hq
  exact ⟨rfl, h.ev (hop p (by rw [← Array.mem_toList_iff]; exact List.mem_of_getElem? hp))⟩

/-- A struct's or an array's value. -/
def buildA (P : Program) (t : TypeId) (parts : Array (Nat × Value)) : Option Value :=
  match P.info? t, P.underlying t with
  | some i, some (.struct fs) => match i.zero with
    | some z => if af 8 z = true then
        match fs.mapM (m := Option) (fun f => (P.info? f.type).map fun j => (f.offset, j.size)) with
        | some places => (Instr.fill (places[·]?) z.cells parts.toList).map .agg
        | none => none
      else none
    | none => none
  | some i, some (.array _ e) => match i.zero, P.info? e with
    | some z, some j => if af 8 z = true then (Instr.fill (fun i => some (i * j.size, j.size)) z.cells parts.toList).map .agg else none
    | _, _ => none
  | _, _ => none

theorem run_places {fs : Array Field} {places : Array (Nat × Nat)} (h : fs.mapM (m := Option) (fun f => (P.info? f.type).map fun j => (f.offset, j.size)) = some places) (w : World) :
    (fs.mapM fun f => do pure (f.offset, ← sizeOf f.type) : Sem (Array (Nat × Nat))).run P w = .ok places w := by
  rw [Array.mapM_eq_mapM_toList] at h ⊢
  rw [Option.map_eq_map, Option.map_eq_some_iff] at h
  obtain ⟨l, hl, rfl⟩ := h
  have key : ∀ (fl : List Field) (l : List (Nat × Nat)), fl.mapM (m := Option) (fun f => (P.info? f.type).map fun j => (f.offset, j.size)) = some l →
      (fl.mapM fun f => do pure (f.offset, ← sizeOf f.type) : Sem (List (Nat × Nat))).run P w = .ok l w := by
    intro fl
    induction fl with
    | nil => intro l h; simp at h; subst h; simp
    | cons f fl ih =>
      intro l h
      simp only [List.mapM_cons, bind, Option.bind_eq_some_iff] at h
      obtain ⟨p, hp, h⟩ := h
      obtain ⟨l', hl', h⟩ := h
      simp only [pure, Option.some.injEq] at h
      subst h
      rw [Option.map_eq_some_iff] at hp
      obtain ⟨j, hj, rfl⟩ := hp
      rw [List.mapM_cons]
      simp only [Sem.run_bind, run_sizeOf hj, Result.andThen_ok, Sem.run_pure, ih l' hl']
  rw [Sem.run_map, key _ _ hl]
  rfl

theorem build_done (h : Pre G w0 c g S w a ac o) (t : TypeId) (parts : Array (Nat × Operand)) (ho : o.op = .build t parts) (hv : buildA P t (parts.map fun (i, x) => (i, a.eval x)) = some v) : Done P G w0 ac o c w v S := by
  obtain ⟨hpl, hpv⟩ := parts_rel h parts (fun p hp => by simp only [ho, Op.operands]; simp; exact ⟨p.1, hp⟩)
  unfold buildA at hv
  have zr : ∀ z : Value, af 8 z = true → z.cells.size = z.cells.size ∧ ∀ (i : Nat) (x y : Value), z.cells[i]? = some x → z.cells[i]? = some y → VR c x y := fun z hz => (af_refl c 8 z hz).cells
  split at hv
  · rename_i i fs hi hu
    split at hv
    · rename_i z hz
      split at hv
      · rename_i haf
        split at hv
        · rename_i places hpp
          rw [Option.map_eq_some_iff] at hv
          obtain ⟨out, hout, rfl⟩ := hv
          obtain ⟨out', hout', hs, hh⟩ := fill_rel (places[·]?) _ _ _ _ _ hpl hpv (zr z haf).1 (zr z haf).2 hout
          refine done_value (s := Instr.build t (parts.map fun (i, x) => (i, ac.eval x))) (u := .agg out') (by simp only [execOp, ho]) ?_ (Ctx.le.refl _) h.rel (.agg _ _ hs hh)
          simp only [Instr.build, zeroValue, typeInfo, program, hi, hz, Sem.run_bind, Sem.run, Result.andThen_ok, Sem.run_pure, run_underlying hu, run_places hpp, hout']
        · cases hv
      · cases hv
    · cases hv
  · rename_i i e n hi hu
    split at hv
    · rename_i z j hz hj
      split at hv
      · rename_i haf
        rw [Option.map_eq_some_iff] at hv
        obtain ⟨out, hout, rfl⟩ := hv
        obtain ⟨out', hout', hs, hh⟩ := fill_rel (fun i => some (i * j.size, j.size)) _ _ _ _ _ hpl hpv (zr z haf).1 (zr z haf).2 hout
        refine done_value (s := Instr.build t (parts.map fun (i, x) => (i, ac.eval x))) (u := .agg out') (by simp only [execOp, ho]) ?_ (Ctx.le.refl _) h.rel (.agg _ _ hs hh)
        simp only [Instr.build, zeroValue, typeInfo, program, hi, hz, Sem.run_bind, Sem.run, Result.andThen_ok, Sem.run_pure, run_underlying hu, run_sizeOf hj, hout']
      · cases hv
    · cases hv
  · cases hv

theorem made_get (z : Array Value) (n i : Nat) (h : i < n) : (madeCells z n)[i]? = some (z[i % z.size]!) := by
  simp [madeCells, h]

def zeroOK (z : Value) : Bool := af 8 z && z.cells.toList.all (af 8) && z.cells.toList.all one && decide (0 < z.cells.size)

theorem made_rel (c : Ctx) {z : Value} (h : zeroOK z = true) (n m i : Nat) (x y : Value) (hx : (madeCells z.cells n).toList[i]? = some x) (hy : (madeCells z.cells m)[i]? = some y) : VR c x y := by
  simp only [Array.getElem?_toList] at hx
  have h1 : i < n := by have := (Array.getElem?_eq_some_iff.1 hx).1; simpa [size_madeCells] using this
  have h2 : i < m := by have := (Array.getElem?_eq_some_iff.1 hy).1; simpa [size_madeCells] using this
  rw [made_get _ _ _ h1] at hx
  rw [made_get _ _ _ h2] at hy
  rw [hx] at hy
  cases hy
  cases hx
  simp only [zeroOK, Bool.and_eq_true, decide_eq_true_eq] at h
  have hlt : i % z.cells.size < z.cells.size := Nat.mod_lt _ h.2
  refine af_refl c 8 _ (all_get h.1.1.2 (i := i % z.cells.size) ?_)
  rw [getElem!_pos z.cells (i % z.cells.size) hlt]
  exact Array.getElem?_eq_getElem hlt

/-- make([]T, l, m), known sizes. -/
def makeA (P : Program) (S : St) (t : TypeId) (l m : Int) : Option (Value × St) :=
  match P.underlying t with
  | some (.slice e) => match P.info? e with
    | some i => match i.zero with
      | some z =>
        if zeroOK z = true ∧ z.cells.size = i.size ∧ 0 ≤ l ∧ l ≤ m ∧ (i.bytes : Int) * m ≤ 281474976710656 ∧ m ≤ 9223372036854775807 then
          match S.alloc i.size (madeCells z.cells (l.toNat * i.size)).toList with
          | some (b, S') => some (.slice (some ⟨b, 0, none⟩) l.toNat (m.toNat + 1), S')
          | none => none
        else none
      | none => none
    | none => none
  | _ => none

theorem make_done (h : Pre G w0 c g S w a ac o) (t : TypeId) (x y : Operand) (ho : o.op = .makeSlice t x y) (kl km : IntKind) (l m : Int) (hx : a.eval x = .int kl l) (hy : a.eval y = .int km m) (hv : makeA P S t l m = some (v, S')) : Done P G w0 ac o c w v S' := by
  have hcx := h.ev (x := x) (by simp [ho, Op.operands])
  have hcy := h.ev (x := y) (by simp [ho, Op.operands])
  rw [hx] at hcx
  rw [hy] at hcy
  unfold makeA at hv
  split at hv
  · rename_i e hu
    split at hv
    · rename_i i hi
      split at hv
      · rename_i z hz
        split at hv
        · rename_i hcnd
          obtain ⟨hzo, hzs, h0, hlm, hby, h63⟩ := hcnd
          split at hv
          · rename_i b S1 hs
            cases hv
            have hr := run_make (P := P) w t e i z hu hi hz kl km l m h0 hlm hby h63
            have hle2 : l.toNat * i.size ≤ m.toNat * i.size := Nat.mul_le_mul_right _ (by omega)
            obtain ⟨rfl, c', g', hle, hn, hloc, hes, hcz, hR'⟩ := h.rel.alloc hs (cur := madeCells z.cells (m.toNat * i.size)) (e := e) (by simp only [Array.length_toList, size_madeCells]; exact hle2) (fun j x y hx hy => made_rel c hzo _ _ j x y hx hy)
            have hcapb : (c'.loc c.n).2 + 0 + m.toNat * c'.es c.n ≤ c'.cz (c'.loc c.n).1 := by
              rw [hloc, hes]
              simp only
              rw [hcz, size_madeCells]
              omega
            have hvr := VR.slice (c := c') c.n 0 l.toNat (m.toNat + 1) m.toNat (by omega) (by omega) (.inr rfl) hcapb
            rw [hloc] at hvr
            refine done_value (s := Instr.makeSlice t (ac.eval x) (ac.eval y)) (by simp only [execOp, ho]) ?_ hle hR' hvr
            rw [hcx.int_inv, hcy.int_inv]
            exact hr
          · cases hv
        · cases hv
      · cases hv
    · cases hv
  · cases hv

/-- []T{..}. -/
def litA (P : Program) (S : St) (t : TypeId) (len : Nat) (parts : Array (Nat × Value)) : Option (Value × St) :=
  match P.underlying t with
  | some (.slice e) => match P.info? e with
    | some i => match i.zero with
      | some z =>
        if zeroOK z = true ∧ z.cells.size = i.size ∧ len * i.size ≤ 16777216 ∧ len * i.size ≠ 0 then
          match Instr.fill (fun j => some (j * i.size, i.size)) (madeCells z.cells (len * i.size)) parts.toList with
          | some cells => match S.alloc i.size cells.toList with
            | some (b, S') => if cells.size = len * i.size then some (.slice (some ⟨b, 0, none⟩) len (len + 1), S') else none
            | none => none
          | none => none
        else none
      | none => none
    | none => none
  | _ => none

theorem lit_done (h : Pre G w0 c g S w a ac o) (t : TypeId) (len : Nat) (parts : Array (Nat × Operand)) (ho : o.op = .buildSlice t len parts) (hv : litA P S t len (parts.map fun (i, x) => (i, a.eval x)) = some (v, S')) : Done P G w0 ac o c w v S' := by
  obtain ⟨hpl, hpv⟩ := parts_rel h parts (fun p hp => by simp only [ho, Op.operands]; simp; exact ⟨p.1, hp⟩)
  unfold litA at hv
  split at hv
  · rename_i e hu
    split at hv
    · rename_i i hi
      split at hv
      · rename_i z hz
        split at hv
        · rename_i hcnd
          obtain ⟨hzo, hzs, hmax, hne⟩ := hcnd
          split at hv
          · rename_i out hout
            split at hv
            · rename_i b S1 hs
              split at hv
              · rename_i hsz
                cases hv
                obtain ⟨out', hout', hs2, hh⟩ := fill_rel (c := c) _ _ _ _ (madeCells z.cells (len * i.size)) _ hpl hpv rfl (fun j x y hx hy => made_rel c hzo _ _ j x y (by simpa using hx) hy) hout
                obtain ⟨rfl, c', g', hle, hn, hloc, hes, hcz, hR'⟩ := h.rel.alloc hs (cur := out') (e := e) (by simp only [Array.length_toList]; omega) (fun j x y hx hy => hh j x y (by simpa using hx) hy)
                have hcapb : (c'.loc c.n).2 + 0 + len * c'.es c.n ≤ c'.cz (c'.loc c.n).1 := by
                  rw [hloc, hes]
                  simp only
                  rw [hcz]
                  omega
                have hvr := VR.slice (c := c') c.n 0 len (len + 1) len (by omega) (Nat.le_refl _) (.inr rfl) hcapb
                rw [hloc] at hvr
                refine done_value (s := Instr.buildSlice t len (parts.map fun (i, x) => (i, ac.eval x))) (by simp only [execOp, ho]) ?_ hle hR' hvr
                have hmc : (Array.range (len * i.size)).map (z.cells[· % z.cells.size]!) = madeCells z.cells (len * i.size) := rfl
                have hle24 : ¬ (len * i.size > 2 ^ 24) := by omega
                simp only [Instr.buildSlice, Sem.run_bind, run_underlying hu, Result.andThen_ok, run_sizeOf hi, if_neg hle24, if_neg hne, Sem.run_pure, zeroValue, typeInfo, program, Sem.run, hi, hz, hmc, hout', newRow, newObj]
                rfl
              · cases hv
            · cases hv
          · cases hv
        · cases hv
      · cases hv
    · cases hv
  · cases hv


def bound (v : Option Value) (d : Nat) : Option Nat :=
  match v with
  | none => some d
  | some (.int _ n) => if 0 ≤ n then some n.toNat else none
  | _ => none

/-- x[l:h:m] of a slice: nothing beyond its length. -/
def sliceA (P : Program) (S : St) (t : TypeId) (x : Value) (lo hi mx : Option Value) : Option Value :=
  match P.underlying t, x with
  | some (.slice e), .slice (some ⟨b, off, none⟩) n k =>
    match P.info? e, S.blks.get b, bound lo 0, bound hi n, bound mx n with
    | some i, some kb, some l, some h, some m =>
      if kb.sz = i.size ∧ l ≤ h ∧ h ≤ m ∧ m ≤ n ∧ (mx.isSome = true → hi.isSome = true) then some (.slice (some ⟨b, off + l * i.size, none⟩) (h - l) (if mx.isSome = true then m - l + 1 else if k = 0 then 0 else k - l)) else none
    | _, _, _, _, _ => none
  | some (.slice e), .slice none 0 0 =>
    match P.info? e, bound lo 0, bound hi 0, bound mx 0 with
    | some _, some 0, some 0, some 0 => if mx.isSome = true → hi.isSome = true then some x else none
    | _, _, _, _ => none
  | _, _ => none

theorem bound_run {v : Option Value} {d n y : Nat} (h : bound v d = some n) (hy : n ≤ y) (code : BoundsCode) (w : World) : ∀ x, v = some x → (Instr.sliceBound x y code).run P w = .ok n w := by
  intro x e
  subst e
  unfold bound at h
  split at h
  · rename_i h2; cases h2
  · rename_i k i h2
    cases h2
    split at h
    · rename_i h0
      cases h
      simp [Instr.sliceBound, asIntOf, h0, show i ≤ (y : Int) by omega]
    · cases h
  · cases h

theorem bounds_run {lo hi mx : Option Value} {n cap l h m : Nat} (hl : bound lo 0 = some l) (hh : bound hi n = some h) (hm : bound mx n = some m) (h1 : l ≤ h) (h2 : h ≤ m) (h3 : m ≤ n) (h4 : n ≤ cap) (hf : mx.isSome = true → hi.isSome = true) (w : World) :
    (Instr.sliceBounds true n cap lo hi mx).run P w = .ok (l, h, if mx.isSome = true then m else cap) w := by
  unfold Instr.sliceBounds
  cases mx with
  | none =>
    cases hi with
    | none =>
      have eh : h = n := by simp [bound] at hh; exact hh.symm
      cases lo with
      | none => have el : l = 0 := by simp [bound] at hl; exact hl.symm
                subst el; subst eh; simp
      | some x => simp [bound_run (P := P) hl (show l ≤ n by omega) _ w x rfl, eh]
    | some y =>
      cases lo with
      | none => have el : l = 0 := by simp [bound] at hl; exact hl.symm
                subst el; simp [bound_run (P := P) hh (show h ≤ cap by omega) _ w y rfl]
      | some x => simp [bound_run (P := P) hl h1 _ w x rfl, bound_run (P := P) hh (show h ≤ cap by omega) _ w y rfl]
  | some z =>
    cases hi with
    | none => simp at hf
    | some y =>
      cases lo with
      | none => have el : l = 0 := by simp [bound] at hl; exact hl.symm
                subst el; simp [bound_run (P := P) hm (show m ≤ cap by omega) _ w z rfl, bound_run (P := P) hh h2 _ w y rfl]
      | some x => simp [bound_run (P := P) hm (show m ≤ cap by omega) _ w z rfl, bound_run (P := P) hl h1 _ w x rfl, bound_run (P := P) hh h2 _ w y rfl]

theorem VR.int_or (c : Ctx) {x y : Value} (h : VR c x y) (k : IntKind) (n : Int) (e : x = .int k n) : y = .int k n := by subst e; exact h.int_inv

/-- Bounds of both sides are the same. -/
theorem bound_rel {c : Ctx} {x : Option Operand} {a ac : Act} (h : ∀ y, x = some y → VR c (a.eval y) (ac.eval y)) {d n : Nat} (hb : bound (x.map a.eval) d = some n) : x.map ac.eval = x.map a.eval := by
  cases x with
  | none => rfl
  | some y =>
    have hv := h y rfl
    simp only [Option.map_some, bound] at hb
    simp only [Option.map_some, Option.some.injEq]
    split at hb
    · rename_i e; cases e
    · rename_i k i e
      simp only [Option.some.injEq] at e
      rw [e] at hv ⊢
      exact hv.int_inv
    · cases hb

theorem slice_done (h : Pre G w0 c g S w a ac o) (t : TypeId) (x : Operand) (lo hi mx : Option Operand) (ho : o.op = .slice t x lo hi mx) (hv : sliceA P S t (a.eval x) (lo.map a.eval) (hi.map a.eval) (mx.map a.eval) = some v) : Done P G w0 ac o c w v S := by
  have hc := h.ev (x := x) (by simp [ho, Op.operands])
  have hlo : ∀ y, lo = some y → VR c (a.eval y) (ac.eval y) := fun y e => h.ev (by simp [ho, Op.operands, e])
  have hhi : ∀ y, hi = some y → VR c (a.eval y) (ac.eval y) := fun y e => h.ev (by simp [ho, Op.operands, e])
  have hmx : ∀ y, mx = some y → VR c (a.eval y) (ac.eval y) := fun y e => h.ev (by simp [ho, Op.operands, e])
  unfold sliceA at hv
  split at hv
  · rename_i e b off n k hu hx
    split at hv
    · rename_i i kb l h' m hi' hkb hbl hbh hbm
      split at hv
      · rename_i hcnd
        obtain ⟨hsz, h1, h2, h3, hf⟩ := hcnd
        cases hv
        rw [hx] at hc
        obtain ⟨f, cur, e', fr, ok⟩ := h.rel.blk b kb hkb
        have hes : c.es b = i.size := ok.es.trans hsz
        generalize hux : ac.eval x = ux at hc
        generalize hfix : (mx.map a.eval).isSome = fixed at hf
        have hfix2 : (mx.map a.eval).isSome = true → (hi.map a.eval).isSome = true := fun e => hf (by rw [← hfix]; exact e)
        cases hc with
        | slice _ _ _ _ cap hbn hn hk hcap =>
          have hb := bounds_run (P := P) (cap := cap) hbl hbh hbm h1 h2 h3 hn hfix2 w
          rw [hfix] at hb
          rw [hes] at hcap
          have hrun : (Instr.sliceAt t (ac.eval x) (lo.map ac.eval) (hi.map ac.eval) (mx.map ac.eval)).run P w =
              .ok (.slice (if (if fixed = true then m else cap) = l then some ⟨(c.loc b).1, (c.loc b).2 + off, none⟩ else some ⟨(c.loc b).1, (c.loc b).2 + off + l * i.size, none⟩) (h' - l) ((if fixed = true then m else cap) - l)) w := by
            rw [bound_rel hlo hbl, bound_rel hhi hbh, bound_rel hmx hbm, hux]
            simp only [Instr.sliceAt, Sem.run_bind, run_underlying hu, Result.andThen_ok, Instr.slice, hb, run_sizeOf hi', Sem.run_pure, Option.map_some, Addr.add_lit]
          generalize hM : (if fixed = true then m else cap) = M at hrun
          have hMc : M ≤ cap := by rw [← hM]; split <;> omega
          have hMh : h' ≤ M := by rw [← hM]; split <;> omega
          by_cases hMl : M = l
          · rw [if_pos hMl] at hrun
            have e1 : h' - l = 0 := by omega
            have e2 : M - l = 0 := by omega
            rw [e1, e2] at hrun
            rw [e1]
            refine done_value (by simp only [execOp, ho]) hrun (Ctx.le.refl _) h.rel (.empty b _ _ _ hbn ?_)
            split
            · rename_i ef; rw [if_pos ef] at hM; right; omega
            · rename_i ef
              rw [if_neg ef] at hM
              rcases hk with hk | hk
              · left; rw [if_pos hk]
              · right; rw [if_neg (by omega)]; omega
          · rw [if_neg hMl] at hrun
            have hmul : l * i.size + (M - l) * i.size = M * i.size := by rw [← Nat.add_mul]; congr 1; omega
            have hmul2 : M * i.size ≤ cap * i.size := Nat.mul_le_mul_right _ hMc
            have hvr := VR.slice (c := c) b (off + l * i.size) (h' - l) (if fixed = true then m - l + 1 else if k = 0 then 0 else k - l) (M - l) hbn (by omega) (by
              split
              · rename_i ef; rw [if_pos ef] at hM; right; omega
              · rename_i ef
                rw [if_neg ef] at hM
                rcases hk with hk | hk
                · left; rw [if_pos hk]
                · right; rw [if_neg (by omega)]; omega) (by rw [hes]; omega)
            rw [← Nat.add_assoc] at hvr
            exact done_value (by simp only [execOp, ho]) hrun (Ctx.le.refl _) h.rel hvr
        | empty _ _ _ ad hbn hk =>
          have hb := bounds_run (P := P) (cap := 0) hbl hbh hbm h1 h2 h3 (Nat.le_refl _) hfix2 w
          rw [hfix] at hb
          have el : l = 0 := by omega
          have eh : h' = 0 := by omega
          have em : m = 0 := by omega
          subst el; subst eh; subst em
          have e0 : (if fixed = true then 0 else 0) = 0 := by split <;> rfl
          rw [e0] at hb
          refine done_value (s := Instr.sliceAt t (ac.eval x) (lo.map ac.eval) (hi.map ac.eval) (mx.map ac.eval)) (u := .slice (some ad) 0 0) (by simp only [execOp, ho]) ?_ (Ctx.le.refl _) h.rel (.empty b _ _ _ hbn ?_)
          · rw [bound_rel hlo hbl, bound_rel hhi hbh, bound_rel hmx hbm, hux]
            simp [Instr.sliceAt, run_underlying hu, Instr.slice, hb, run_sizeOf hi']
          · split
            · right; rfl
            · split
              · left; rfl
              · omega
      · cases hv
    · cases hv
  · rename_i e hu hx
    split at hv
    · rename_i i hi' hbl hbh hbm
      split at hv
      · rename_i hfix2
        cases hv
        rw [hx] at hc
        generalize hux : ac.eval x = ux at hc
        cases hc with
        | slice0 =>
          have hb := bounds_run (P := P) (cap := 0) hbl hbh hbm (Nat.le_refl _) (Nat.le_refl _) (Nat.le_refl _) (Nat.le_refl _) hfix2 w
          rw [ite_self] at hb
          refine done_value (s := Instr.sliceAt t (ac.eval x) (lo.map ac.eval) (hi.map ac.eval) (mx.map ac.eval)) (u := .slice none 0 0) (by simp only [execOp, ho]) ?_ (Ctx.le.refl _) h.rel (by rw [hx]; exact .slice0)
          rw [bound_rel hlo hbl, bound_rel hhi hbh, bound_rel hmx hbm, hux]
          simp [Instr.sliceAt, run_underlying hu, Instr.slice, hb, run_sizeOf hi']
      · cases hv
    · cases hv
  · cases hv

end Go.Am

namespace Go.Am
open Go Go.RowKit

variable {P : Program} {G : Nat} {w0 w : World} {c : Ctx} {g : Gh} {S S' : St} {a ac : Act} {o : Oper} {v : Value}

/-- A call of a builtin function. -/
theorem builtin_done {b : Builtin} {args : Array Operand} {ts : Array TypeId} (ho : o.op = .call { callee := .builtin b, args := args, argTypes := ts }) {s : Sem Value} {w' : World} {c' : Ctx} {g' : Gh} {u : Value}
    (hs : ∀ cs : Array Bool, builtin b ts o.type cs (args.map ac.eval) = (do pure (.value (← s)))) (hr : s.run P w = .ok u w') (hc : c.le c') (hR : Rel G w0 c' g' S' w') (hv : VR c' v u) : Done P G w0 ac o c w v S' := by
  refine done_value (s := s) ?_ hr hc hR hv
  simp only [execOp, ho, resolve, invoke]
  exact hs _

theorem arg_ev (h : Pre G w0 c g S w a ac o) {b : Builtin} {args : Array Operand} {ts : Array TypeId} (ho : o.op = .call { callee := .builtin b, args := args, argTypes := ts }) {x : Operand} (hx : x ∈ args) : VR c (a.eval x) (ac.eval x) :=
  h.ev (by simp [ho, Op.operands, Call.operands, hx])

def lenA (P : Program) (t : TypeId) (x : Value) : Option Value :=
  match P.underlying t, x with
  | some (.slice _), .slice _ n _ => some (goInt n)
  | some (.array n _), _ => some (goInt n)
  | some (.pointer e), _ => match P.underlying e with
    | some (.array n _) => some (goInt n)
    | _ => none
  | _, _ => none

theorem len_done (h : Pre G w0 c g S w a ac o) (x : Operand) (t : TypeId) (ho : o.op = .call { callee := .builtin .len, args := #[x], argTypes := #[t] }) (hv : lenA P t (a.eval x) = some v) : Done P G w0 ac o c w v S := by
  have hc := arg_ev h ho (x := x) (by simp)
  refine builtin_done ho (s := Builtin.len_ #[t] o.type #[ac.eval x]) (u := v) (fun cs => by simp [builtin]) ?_ (Ctx.le.refl _) h.rel ?_
  · unfold lenA at hv
    split at hv
    · rename_i e ad n k hu hx
      cases hv
      rw [hx] at hc
      generalize ac.eval x = ux at hc
      cases hc <;> simp [Builtin.len_, run_underlying hu]
    · rename_i n e hu
      cases hv
      simp [Builtin.len_, run_underlying hu]
    · rename_i e hu
      split at hv
      · rename_i n e' hu'
        cases hv
        simp [Builtin.len_, run_underlying hu, run_underlying hu']
      · cases hv
    · cases hv
  · unfold lenA at hv
    split at hv
    · cases hv; exact .int _ _
    · cases hv; exact .int _ _
    · split at hv
      · cases hv; exact .int _ _
      · cases hv
    · cases hv

def capA (P : Program) (t : TypeId) (x : Value) : Option Value :=
  match P.underlying t, x with
  | some (.slice _), .slice none 0 0 => some (goInt 0)
  | some (.slice _), .slice _ _ k => if k = 0 then none else some (goInt ((k - 1 : Nat) : Int))
  | _, _ => none

theorem cap_done (h : Pre G w0 c g S w a ac o) (x : Operand) (t : TypeId) (ho : o.op = .call { callee := .builtin .cap, args := #[x], argTypes := #[t] }) (hv : capA P t (a.eval x) = some v) : Done P G w0 ac o c w v S := by
  have hc := arg_ev h ho (x := x) (by simp)
  unfold capA at hv
  split at hv
  · rename_i e hu hx
    cases hv
    rw [hx] at hc
    generalize hux : ac.eval x = ux at hc
    cases hc
    exact builtin_done ho (s := Builtin.cap_ #[t] o.type #[ac.eval x]) (u := goInt 0) (fun cs => by simp [builtin]) (by simp [hux, Builtin.cap_, run_underlying hu]) (Ctx.le.refl _) h.rel (.int _ _)
  · rename_i e ad n k _ hu hx
    split at hv
    · cases hv
    · rename_i hk0
      cases hv
      rw [hx] at hc
      generalize hux : ac.eval x = ux at hc
      cases hc with
      | slice0 => exact absurd rfl hk0
      | slice _ _ _ _ m hbn hn hk hcap =>
        have : k - 1 = m := by omega
        subst this
        exact builtin_done ho (s := Builtin.cap_ #[t] o.type #[ac.eval x]) (u := goInt ((k - 1 : Nat) : Int)) (fun cs => by simp [builtin]) (by simp [hux, Builtin.cap_, run_underlying hu]) (Ctx.le.refl _) h.rel (.int _ _)
      | empty _ _ _ ad hbn hk =>
        have : k - 1 = 0 := by omega
        rw [this]
        exact builtin_done ho (s := Builtin.cap_ #[t] o.type #[ac.eval x]) (u := goInt ((0 : Nat) : Int)) (fun cs => by simp [builtin]) (by simp [hux, Builtin.cap_, run_underlying hu]) (Ctx.le.refl _) h.rel (.int _ _)
  · cases hv

def strCells (s : ByteArray) : List Value := s.data.toList.map fun b => .int .u8 b.toNat
theorem run_firstCells_str (w : World) (size : Nat) (s : ByteArray) : (Builtin.firstCells size s.size (.string s)).run P w = .ok (strCells s).toArray w := by
  have e : s.extract 0 s.size = s := ByteArray.extract_zero_size
  simp only [Builtin.firstCells, e, Sem.run_pure, strCells]
  congr 1
  apply Array.ext'
  simp

/-- What is appended: how many elements, and their cells. -/
def newsA (P : Program) (S : St) (t : TypeId) (x : Value) (size : Nat) : Option (Nat × List Value) :=
  match P.underlying t, x with
  | some (.slice _), .slice none 0 0 => some (0, [])
  | some (.slice _), .slice (some ⟨b, off, none⟩) m _ => if m = 0 then some (0, []) else (S.rd b off (m * size)).map fun l => (m, l)
  | some .string, .string s => some (s.size, strCells s)
  | _, _ => none

structure News (P : Program) (c : Ctx) (w : World) (t : TypeId) (size : Nat) (x : Value) (m : Nat) (news us : List Value) : Prop where
  type : (∃ e, P.underlying t = some (.slice e)) ∨ P.underlying t = some .string
  len : ∀ w, (Builtin.lenOf x).run P w = .ok m w
  first : (Builtin.firstCells size m x).run P w = .ok us.toArray w
  firstd : (Builtin.firstCells size m x).run P w.drew = .ok us.toArray w.drew
  same : us.length = news.length
  rel : ∀ (i : Nat) (v u : Value), news[i]? = some v → us[i]? = some u → VR c v u

theorem news_run (hR : Rel G w0 c g S w) {t : TypeId} {x u : Value} (hx : VR c x u) {size m : Nat} {news : List Value} (h : newsA P S t x size = some (m, news)) : ∃ us, News P c w t size u m news us := by
  unfold newsA at h
  split at h
  · rename_i e hu
    cases h
    cases hx
    exact ⟨[], .inl ⟨_, hu⟩, fun _ => rfl, by simp [Builtin.firstCells], by simp [Builtin.firstCells], rfl, fun i v u h _ => by simp at h⟩
  · rename_i e b off m' k hu
    split at h
    · rename_i hm
      cases h
      subst hm
      have hz2 : ∀ (ad : Option Addr) (n k : Nat) (w : World), (Builtin.firstCells size 0 (.slice ad n k)).run P w = .ok (#[] : Array Value) w := fun ad n k w => by
        cases ad <;> simp [Builtin.firstCells, loadCells, loadCellsFrom]
      cases hx with
      | slice => exact ⟨[], .inl ⟨_, hu⟩, fun _ => rfl, hz2 _ _ _ _, hz2 _ _ _ _, rfl, fun i v u h _ => by simp at h⟩
      | empty => exact ⟨[], .inl ⟨_, hu⟩, fun _ => rfl, hz2 _ _ _ _, hz2 _ _ _ _, rfl, fun i v u h _ => by simp at h⟩
    · rename_i hm
      rw [Option.map_eq_some_iff] at h
      obtain ⟨l, hl, he⟩ := h
      cases he
      obtain ⟨hb, hll, us, hul, hcell, hvr⟩ := hR.rd hl
      cases hx with
      | slice _ _ _ _ cap =>
        refine ⟨us, .inl ⟨_, hu⟩, fun _ => rfl, ?_, ?_, by omega, hvr⟩
        · exact run_firstCells_some (P := P) w size m ⟨(c.loc b).1, (c.loc b).2 + off, none⟩ m cap us hul fun j u hu => by rw [Addr.add_lit]; exact hcell j u hu
        · exact run_firstCells_some (P := P) w.drew size m ⟨(c.loc b).1, (c.loc b).2 + off, none⟩ m cap us hul fun j u hu => by rw [Addr.add_lit]; exact hcell j u hu
      | empty => omega
  · rename_i s hu
    cases h
    cases hx
    refine ⟨strCells s, .inr hu, fun _ => rfl, run_firstCells_str w size s, run_firstCells_str w.drew size s, rfl, fun i v u hv hu => ?_⟩
    rw [hv] at hu
    cases hu
    unfold strCells at hv
    rw [List.getElem?_map, Option.map_eq_some_iff] at hv
    obtain ⟨b, _, rfl⟩ := hv
    exact .int _ _
  · cases h


def need (S : St) (b off n size : Nat) : Option (List Value) := if n = 0 then some [] else S.rd b off (n * size)

/-- append(s, x...). -/
def appA (P : Program) (S : St) (t tx : TypeId) (s x : Value) : Option (Value × St) :=
  match P.underlying t with
  | some (.slice e) => match P.info? e with
    | some i => match i.zero, newsA P S tx x i.size with
      | some z, some (m, news) =>
        if z.cells.size = i.size ∧ 0 < i.size then
          match s with
          | .slice none 0 0 =>
            if m = 0 then some (s, S)
            else if m * i.bytes ≤ 140737488355328 ∧ m ≤ 9223372036854775807 ∧ news.length = m * i.size then
              match S.alloc i.size news with
              | some (b, S') => some (.slice (some ⟨b, 0, none⟩) m 0, S')
              | none => none
            else none
          | .slice (some ⟨b, off, none⟩) n k =>
            if m = 0 then some (s, S)
            else if (n + m) * i.bytes ≤ 140737488355328 ∧ n + m ≤ 9223372036854775807 ∧ news.length = m * i.size then
              match S.blks.get b with
              | some kb =>
                if k ≠ 0 ∧ k - 1 < n + m then
                  match need S b off n i.size with
                  | some olds => match S.alloc i.size (olds ++ news) with
                    | some (b', S') => some (.slice (some ⟨b', 0, none⟩) (n + m) 0, S')
                    | none => none
                  | none => none
                else if kb.sz = i.size then
                  match S.grow b off (n * i.size) news with
                  | some (b', S') => some (.slice (some ⟨b', 0, none⟩) (n + m) 0, S')
                  | none => none
                else none
              | none => none
            else none
          | _ => none
        else none
      | _, _ => none
    | none => none
  | _ => none

section
variable {t tx e : TypeId} {i : TypeInfo} {z : Value}

theorem append_nothing (ht : P.underlying t = some (.slice e)) (hi : P.info? e = some i) {ad : Option Addr} {n cap : Nat} (hle : n ≤ cap) {u : Value} {news us : List Value} (hn : News P c w tx i.size u 0 news us) (h0 : us = []) (ty : TypeId) :
    (Builtin.append_ #[t, tx] ty #[.slice ad n cap, u]).run P w = .ok (.slice ad n cap) w := by
  have hf := hn.first
  rw [h0] at hf
  have hl := hn.len
  rcases hn.type with ⟨e2, hd⟩ | hd <;> cases ad <;> simp [Builtin.append_, run_underlying ht, run_underlying hd, sizeOf, typeInfo, hi, hl, hle, hf, storeCells]

theorem append_room (ht : P.underlying t = some (.slice e)) (hi : P.info? e = some i) {gb o n cap m : Nat} (hle : n + m ≤ cap) {u : Value} {news us : List Value} (hn : News P c w tx i.size u m news us)
    {cur : Array Value} {e' : TypeId} (hg : w.heap[gb]? = some (.cells cur e' (0, 0))) (hfit : o + n * i.size + us.length ≤ cur.size) (h1 : ∀ v ∈ us, v.oneCell' = true) (ty : TypeId) :
    (Builtin.append_ #[t, tx] ty #[.slice (some ⟨gb, o, none⟩) n cap, u]).run P w = .ok (.slice (some ⟨gb, o, none⟩) (n + m) cap) (w.setRow gb (put cur (o + n * i.size) us)) := by
  have hst := run_storeCells_at P gb (o + n * i.size) e' us 0 cur w hg (by simpa using hfit) h1
  simp only [Nat.add_zero] at hst
  have hf := hn.first
  have hl := hn.len
  rcases hn.type with ⟨e2, hd⟩ | hd <;> simp [Builtin.append_, run_underlying ht, run_underlying hd, sizeOf, typeInfo, hi, hl, hle, hf, Addr.add_lit, hst, put]

theorem append_grow (ht : P.underlying t = some (.slice e)) (hi : P.info? e = some i) (hz : i.zero = some z) {ad : Option Addr} {n cap m : Nat} (hlt : cap < n + m) {u : Value} {news us : List Value} (hn : News P c w tx i.size u m news us)
    {olds : List Value} (ho : (Builtin.firstCells i.size n (.slice ad n cap)).run P w.drew = .ok olds.toArray w.drew) (hby : (n + m) * i.bytes ≤ 140737488355328) (h63 : n + m ≤ 9223372036854775807) (ty : TypeId) :
    (Builtin.append_ #[t, tx] ty #[.slice ad n cap, u]).run P w =
      .ok (.slice (some ⟨w.heap.size, 0, none⟩) (n + m) (grownCap w (n + m) cap e)) (w.drew.alloc (.cells (olds.toArray ++ us.toArray ++ Builtin.zeroCells z.cells (grownCap w (n + m) cap e - (n + m))) e)) := by
  have hf := hn.firstd
  have hl := hn.len
  have hn1 : ¬ (n + m ≤ cap) := by omega
  have h63' : ¬ (9223372036854775807 < ((n : Int) + (m : Int))) := by omega
  have h48' : ¬ (281474976710656 < Builtin.nextslicecap (n + m) cap * i.bytes) := by have := growslice_fits hlt hby; omega
  rcases hn.type with ⟨e2, hd⟩ | hd <;>
    (simp [Builtin.append_, run_underlying ht, run_underlying hd, sizeOf, typeInfo, zeroValue, hi, hz, hl, hn1, h63', h48', Question.forced, hf, ho, newRow, grownCap]
     congr 2
     apply Array.ext'
     simp [List.append_assoc])

theorem cap_bound {n m cap : Nat} {z : Value} {size : Nat} (hzs : z.cells.size = size) (olds us : List Value) (hlo : olds.length = n * size) (hlu : us.length = m * size) (hge : n + m ≤ cap) :
    (olds.toArray ++ us.toArray ++ Builtin.zeroCells z.cells (cap - (n + m))).size = cap * size := by
  simp only [Array.size_append, List.size_toArray, size_zeroCells, hzs, hlo, hlu, ← Nat.add_mul]
  congr 1
  omega
end

end Go.Am

namespace Go.Am
open Go Go.RowKit

variable {P : Program} {G : Nat} {w0 w : World} {c : Ctx} {g : Gh} {S S' : St} {a ac : Act} {o : Oper} {v : Value}

theorem need_run (hR : Rel G w0 c g S w) {b off n size : Nat} {olds : List Value} (h : need S b off n size = some olds) {x u : Value} {k : Nat} (e : x = .slice (some ⟨b, off, none⟩) n k) (hx : VR c x u) :
    ∃ ad cap os, u = .slice ad n cap ∧ n ≤ cap ∧ (k ≠ 0 → k = cap + 1) ∧ (∀ w', (∀ p, w'.cell? p = w.cell? p) → (Builtin.firstCells size n (.slice ad n cap)).run P w' = .ok (List.toArray os) w') ∧ os.length = olds.length ∧ olds.length = n * size ∧
      ∀ (i : Nat) (v u : Value), olds[i]? = some v → os[i]? = some u → VR c v u := by
  subst e
  unfold need at h
  split at h
  · rename_i hn
    subst hn
    cases h
    cases hx with
    | slice _ _ _ _ m hb hn hk => exact ⟨_, m, [], rfl, hn, by omega, fun w' _ => by simp [Builtin.firstCells, loadCells, loadCellsFrom], rfl, by simp, fun i v u h _ => by simp at h⟩
    | empty _ _ _ ad hb hk => exact ⟨_, 0, [], rfl, by omega, by omega, fun w' _ => by simp [Builtin.firstCells, loadCells, loadCellsFrom], rfl, by simp, fun i v u h _ => by simp at h⟩
  · rename_i hn
    obtain ⟨hb, hll, us, hul, hcell, hvr⟩ := hR.rd h
    cases hx with
    | slice _ _ _ _ m hb hn hk =>
      exact ⟨_, m, us, rfl, hn, by omega, fun w' hw => run_firstCells_some (P := P) w' size n ⟨(c.loc b).1, (c.loc b).2 + off, none⟩ n m us hul (fun j u hu => by rw [hw, Addr.add_lit]; exact hcell j u hu), by omega, hll, hvr⟩
    | empty => exact absurd rfl hn

theorem app_done (h : Pre G w0 c g S w a ac o) (s x : Operand) (t tx : TypeId) (ho : o.op = .call { callee := .builtin .append, args := #[s, x], argTypes := #[t, tx] }) (hv : appA P S t tx (a.eval s) (a.eval x) = some (v, S')) : Done P G w0 ac o c w v S' := by
  have hs := arg_ev h ho (x := s) (by simp)
  have hx := arg_ev h ho (x := x) (by simp)
  unfold appA at hv
  split at hv
  · rename_i e hu
    split at hv
    · rename_i i hi
      split at hv
      · rename_i z m news hz hnews
        obtain ⟨us, hn⟩ := news_run h.rel hx hnews
        split at hv
        · rename_i hsz
          obtain ⟨hsz, hpos⟩ := hsz
          have fin : ∀ {u w' c' g'} , (Builtin.append_ #[t, tx] o.type #[ac.eval s, ac.eval x]).run P w = .ok u w' → c.le c' → Rel G w0 c' g' S' w' → VR c' v u → Done P G w0 ac o c w v S' := fun hr hc hR hvr =>
            builtin_done ho (s := Builtin.append_ #[t, tx] o.type #[ac.eval s, ac.eval x]) (fun cs => by simp [builtin]) hr hc hR hvr
          have hge := grownCap_ge w
          split at hv
          · -- a nil slice
            rename_i hsv
            rw [hsv] at hs
            generalize hsu : ac.eval s = su at hs
            cases hs
            split at hv
            · rename_i hm
              subst hm
              cases hv
              have : us = [] := by
                have := hn.same
                have h0 := hn.first
                have hl : news = [] := by
                  unfold newsA at hnews
                  split at hnews
                  · cases hnews; rfl
                  · split at hnews
                    · cases hnews; rfl
                    · rename_i hne
                      rw [Option.map_eq_some_iff] at hnews
                      obtain ⟨l, _, he⟩ := hnews
                      cases he; exact absurd rfl hne
                  · rename_i sb _ _
                    simp only [Option.some.injEq, Prod.mk.injEq] at hnews
                    rw [← hnews.2]
                    have : sb.data.toList.length = 0 := hnews.1
                    simp [strCells, List.eq_nil_of_length_eq_zero this]
                  · cases hnews
                rw [hl] at this
                exact List.eq_nil_of_length_eq_zero (by simpa using this)
              refine fin (u := .slice none 0 0) ?_ (Ctx.le.refl _) h.rel (by rw [hsv]; exact .slice0)
              rw [hsu]
              exact append_nothing hu hi (Nat.le_refl _) hn this _
            · rename_i hm
              split at hv
              · rename_i hcnd
                obtain ⟨hby, h63, hln⟩ := hcnd
                split at hv
                · rename_i b S1 hal
                  cases hv
                  have hg := append_grow (P := P) (w := w) (olds := []) hu hi hz (ad := none) (n := 0) (cap := 0) (by omega) hn (by simp [Builtin.firstCells]) (by simpa using hby) (by omega) o.type
                  simp only [Nat.zero_add] at hg
                  have hcs := cap_bound (n := 0) (m := m) (cap := grownCap w m 0 e) hsz [] us (by simp) (by rw [hn.same, hln]) (by have := hge m 0 e; omega)
                  simp only [Nat.zero_add] at hcs
                  obtain ⟨rfl, c', g', hle, hcn, hloc, hes, hcz, hR'⟩ := h.rel.drew.alloc hal (cur := ([] : List Value).toArray ++ us.toArray ++ Builtin.zeroCells z.cells (grownCap w m 0 e - m)) (e := e)
                    (by rw [hcs, hln]; exact Nat.mul_le_mul_right _ (by have := hge m 0 e; omega)) (fun j x y hx hy => by
                      have hj : j < us.length := by rw [hn.same]; exact (List.getElem?_eq_some_iff.1 hx).1
                      rw [Array.getElem?_append_left (by simpa using hj)] at hy
                      exact hn.rel j x y hx (by simpa using hy))
                  simp only [World.size_drew] at hloc hcz
                  refine fin (by rw [hsu]; exact hg) hle hR' ?_
                  have hvr := VR.slice (c := c') c.n 0 m 0 (grownCap w m 0 e) (by omega) (by have := hge m 0 e; omega) (.inl rfl) (by rw [hloc, hes]; simp only; rw [hcz, hcs]; omega)
                  rw [hloc] at hvr
                  exact hvr
                · cases hv
              · cases hv
          · -- another one
            rename_i b off n k hsv
            split at hv
            · rename_i hm
              subst hm
              cases hv
              have : us = [] := by
                have := hn.same
                have hl : news = [] := by
                  unfold newsA at hnews
                  split at hnews
                  · cases hnews; rfl
                  · split at hnews
                    · cases hnews; rfl
                    · rename_i hne
                      rw [Option.map_eq_some_iff] at hnews
                      obtain ⟨l, _, he⟩ := hnews
                      cases he; exact absurd rfl hne
                  · rename_i sb _ _
                    simp only [Option.some.injEq, Prod.mk.injEq] at hnews
                    rw [← hnews.2]
                    have : sb.data.toList.length = 0 := hnews.1
                    simp [strCells, List.eq_nil_of_length_eq_zero this]
                  · cases hnews
                rw [hl] at this
                exact List.eq_nil_of_length_eq_zero (by simpa using this)
              have hs2 := hs
              rw [hsv] at hs2
              generalize hsu : ac.eval s = su at hs2
              cases hs2 with
              | slice _ _ _ _ cap hb hnc =>
                refine fin (by rw [hsu]; exact append_nothing hu hi hnc hn this _) (Ctx.le.refl _) h.rel (by rw [hsu] at hs; exact hs)
              | empty =>
                refine fin (by rw [hsu]; exact append_nothing hu hi (Nat.le_refl _) hn this _) (Ctx.le.refl _) h.rel (by rw [hsu] at hs; exact hs)
            · rename_i hm
              split at hv
              · rename_i hcnd
                obtain ⟨hby, h63, hln⟩ := hcnd
                have hlu : us.length = m * i.size := by rw [hn.same, hln]
                split at hv
                · rename_i kb hkb
                  split at hv
                  · -- it surely grows
                    rename_i hk
                    split at hv
                    · rename_i olds hol
                      split at hv
                      · rename_i b1 S1 hal
                        cases hv
                        obtain ⟨ad, cap, os, hsu, hnc, hkc, hfirst, hos, hol2, horel⟩ := need_run (P := P) h.rel hol hsv hs
                        have hkc2 := hkc hk.1
                        have hg := append_grow (P := P) (w := w) (olds := os) hu hi hz (ad := ad) (n := n) (cap := cap) (by omega) hn (hfirst w.drew (fun _ => rfl)) hby h63 o.type
                        have hcs := cap_bound (n := n) (m := m) (cap := grownCap w (n + m) cap e) hsz os us (by rw [hos, hol2]) hlu (hge (n + m) cap e)
                        obtain ⟨rfl, c', g', hle, hcn, hloc, hes, hcz, hR'⟩ := h.rel.drew.alloc hal (cur := os.toArray ++ us.toArray ++ Builtin.zeroCells z.cells (grownCap w (n + m) cap e - (n + m))) (e := e)
                          (by rw [hcs, List.length_append, hol2, hln, ← Nat.add_mul]; exact Nat.mul_le_mul_right _ (hge (n + m) cap e)) (fun j x y hx hy => by
                            have hj : j < (olds ++ news).length := (List.getElem?_eq_some_iff.1 hx).1
                            rw [List.length_append] at hj
                            have hsame := hn.same
                            rw [Array.getElem?_append_left (by simp; omega)] at hy
                            rw [List.getElem?_append] at hx
                            rw [Array.getElem?_append] at hy
                            simp only [List.size_toArray, List.getElem?_toArray] at hy
                            rw [hos] at hy
                            split at hx
                            · rename_i hjo; rw [if_pos hjo] at hy; exact horel j x y hx hy
                            · rename_i hjo; rw [if_neg hjo] at hy; exact hn.rel _ x y hx hy)
                        simp only [World.size_drew] at hloc hcz
                        refine fin (by rw [hsu]; exact hg) hle hR' ?_
                        have hvr := VR.slice (c := c') c.n 0 (n + m) 0 (grownCap w (n + m) cap e) (by omega) (hge (n + m) cap e) (.inl rfl) (by rw [hloc, hes]; simp only; rw [hcz, hcs]; omega)
                        rw [hloc] at hvr
                        exact hvr
                      · cases hv
                    · cases hv
                  · rename_i hk
                    split at hv
                    · rename_i hksz
                      split at hv
                      · rename_i b1 S1 hgr
                        cases hv
                        obtain ⟨f, cur0, e0, fr, ok⟩ := h.rel.blk b kb hkb
                        have hesb : c.es b = i.size := ok.es.trans hksz
                        have hs2 := hs
                        rw [hsv] at hs2
                        -- the cells that are there
                        have hold : n = 0 ∨ ∃ olds, S.rd b off (n * i.size) = some olds := by
                          unfold St.grow at hgr
                          rw [hkb] at hgr
                          simp only [ok.fam] at hgr
                          split at hgr
                          · rename_i hc1
                            right
                            refine ⟨_, by simp [St.rd, St.live, hkb, ok.fam, hc1.1, hc1.2.2.1]; rfl⟩
                          · cases hgr
                        obtain ⟨olds, hol⟩ : ∃ olds, need S b off n i.size = some olds := by
                          rcases hold with h0 | ⟨olds, h0⟩
                          · exact ⟨[], by simp [need, h0]⟩
                          · by_cases hn0 : n = 0
                            · exact ⟨[], by simp [need, hn0]⟩
                            · exact ⟨olds, by simp [need, hn0, h0]⟩
                        obtain ⟨ad, cap, os, hsu, hnc, hkc, hfirst, hos, hol2, horel⟩ := need_run (P := P) h.rel hol hsv hs
                        by_cases hroom : n + m ≤ cap
                        · -- there is room
                          rw [hsu] at hs2
                          cases hs2 with
                          | slice _ _ _ _ _ hb _ _ hcap =>
                            rw [hesb] at hcap
                            have hmul : (n + m) * i.size ≤ cap * i.size := Nat.mul_le_mul_right _ hroom
                            rw [Nat.add_mul] at hmul
                            obtain ⟨rfl, hone, hb, cur, e1, hheap, hcsz, c', g', hle, hcn, hloc, hes, hcz, hR'⟩ := h.rel.grow_in hgr hn.same hn.rel (by rw [hlu]; omega)
                            have hr := append_room (P := P) (w := w) hu hi (gb := (c.loc b).1) (o := (c.loc b).2 + off) (n := n) (cap := cap) hroom hn hheap (by rw [hlu]; omega) (list_one hn.same hn.rel hone) o.type
                            refine fin (by rw [hsu]; exact hr) hle hR' ?_
                            have hvr := VR.slice (c := c') c.n 0 (n + m) 0 cap (by omega) hroom (.inl rfl) (by rw [hloc, hes, hcz, hesb]; simp only; omega)
                            rw [hloc, Nat.add_zero] at hvr
                            exact hvr
                          | empty => omega
                        · -- it grows
                          have hg := append_grow (P := P) (w := w) (olds := os) hu hi hz (ad := ad) (n := n) (cap := cap) (by omega) hn (hfirst w.drew (fun _ => rfl)) hby h63 o.type
                          have hcs := cap_bound (n := n) (m := m) (cap := grownCap w (n + m) cap e) hsz os us (by rw [hos, hol2]) hlu (hge (n + m) cap e)
                          obtain ⟨rfl, hone, hb, c', g', hle, hcn, hloc, hes, hcz, hR'⟩ := h.rel.drew.grow_new hgr (cur := os.toArray ++ us.toArray ++ Builtin.zeroCells z.cells (grownCap w (n + m) cap e - (n + m))) (e := e) os us (by rw [hos, hol2]) hn.same
                            (fun j x y hj hx hy => by
                              obtain ⟨k1, hk1, hx⟩ := hx
                              by_cases hn0 : n = 0
                              · rw [hn0] at hj; omega
                              · simp only [need, hn0, if_false, St.rd, hk1] at hol
                                split at hol
                                · cases hol
                                  exact horel j x y (by rw [List.getElem?_take, if_pos hj, List.getElem?_drop]; exact hx) hy
                                · cases hol) hn.rel (fun j hj => by
                              rw [Array.getElem?_append_left (by simp; omega)]
                              simp)
                          simp only [World.size_drew] at hloc hcz
                          refine fin (by rw [hsu]; exact hg) hle hR' ?_
                          have hvr := VR.slice (c := c') c.n 0 (n + m) 0 (grownCap w (n + m) cap e) (by omega) (hge (n + m) cap e) (.inl rfl) (by rw [hloc, hes, hesb]; simp only; rw [hcz, hcs]; omega)
                          rw [hloc] at hvr
                          exact hvr
                      · cases hv
                    · cases hv
                · cases hv
              · cases hv
          · cases hv
        · cases hv
      · cases hv
    · cases hv
  · cases hv

end Go.Am

namespace Go.Am
open Go Go.RowKit

variable {P : Program} {G : Nat} {w0 w : World} {c : Ctx} {g : Gh} {S S' : St} {a ac : Act} {o : Oper} {v : Value}

def byteOf : Value → Option UInt8
  | .int .u8 n => some (UInt8.ofNat n.toNat)
  | _ => none

def bytesOf : List Value → Option (List UInt8)
  | [] => some []
  | x :: r => match byteOf x, bytesOf r with
    | some b, some l => some (b :: l)
    | _, _ => none

/-- string(b). -/
def strA (P : Program) (S : St) (s d : TypeId) (x : Value) : Option Value :=
  match P.underlying s, P.underlying d, x with
  | some (.slice e), some .string, .slice none 0 0 => match P.underlying e with
    | some (.int .u8) => some (.string .empty)
    | _ => none
  | some (.slice e), some .string, .slice (some ⟨b, off, none⟩) n _ => match P.underlying e with
    | some (.int .u8) => if n = 0 then some (.string .empty) else match S.rd b off n with
      | some l => (bytesOf l).map fun r => .string ⟨r.toArray⟩
      | none => none
    | _ => none
  | _, _, _ => none

theorem bytes_ints (c : Ctx) : ∀ (l us : List Value) (r : List UInt8), bytesOf l = some r → us.length = l.length → (∀ (i : Nat) (v u : Value), l[i]? = some v → us[i]? = some u → VR c v u) →
    ∃ ns : List Int, us = ns.map (Value.int .u8) ∧ r = ns.map (fun n => UInt8.ofNat n.toNat)
  | [], us, r, h, hl, _ => by
    have : us = [] := List.eq_nil_of_length_eq_zero (by simpa using hl)
    subst this
    simp only [bytesOf, Option.some.injEq] at h
    exact ⟨[], rfl, h.symm⟩
  | x :: l, us, r, h, hl, hv => by
    match us, hl with
    | u :: us, hl =>
      simp only [bytesOf] at h
      split at h
      · rename_i b r' hb hr
        cases h
        obtain ⟨ns, e1, e2⟩ := bytes_ints c l us r' hr (by simpa using hl) (fun i v u hx hy => hv (i + 1) v u hx hy)
        have h0 := hv 0 x u rfl rfl
        obtain ⟨n, rfl, rfl⟩ : ∃ n, x = .int .u8 n ∧ b = UInt8.ofNat n.toNat := by
          unfold byteOf at hb
          split at hb
          · exact ⟨_, rfl, (Option.some.inj hb).symm⟩
          · cases hb
        rw [h0.int_inv, e1, e2]
        exact ⟨n :: ns, rfl, rfl⟩
      · cases h

theorem fold_push : ∀ (ns : List Int) (r : ByteArray), ns.foldl (fun r n => r.push (UInt8.ofNat n.toNat)) r = ⟨r.data ++ (ns.map (fun n : Int => UInt8.ofNat n.toNat)).toArray⟩
  | [], r => by simp
  | n :: ns, r => by
    rw [List.foldl_cons, fold_push ns]
    simp [ByteArray.push]

theorem str_done (h : Pre G w0 c g S w a ac o) (s d : TypeId) (x : Operand) (ho : o.op = .convert s d x) (hv : strA P S s d (a.eval x) = some v) : Done P G w0 ac o c w v S := by
  have hc := h.ev (x := x) (by simp [ho, Op.operands])
  have he : execOp ac.eval o = (do pure (.value (← convert s d (ac.eval x)))) := by simp only [execOp, ho]
  have hemp : Conv.bytesToString (Value.slice none 0 0) = pure (.string .empty) := rfl
  unfold strA at hv
  split at hv
  · rename_i e hs hd hx
    split at hv
    · rename_i hu
      cases hv
      rw [hx] at hc
      generalize hux : ac.eval x = ux at hc he
      cases hc
      refine done_value he ?_ (Ctx.le.refl _) h.rel (.string _)
      simp [convert, run_underlying hs, run_underlying hd, run_underlying hu, hemp]
    · cases hv
  · rename_i e b off n k hs hd hx
    split at hv
    · rename_i hu
      rw [hx] at hc
      generalize hux : ac.eval x = ux at hc he
      have key : ∀ (ad : Addr) (cap : Nat) (ns : List Int), (loadCells ad n).run P w = .ok (ns.map (Value.int .u8)).toArray w →
          (convert s d (.slice (some ad) n cap)).run P w = .ok (.string ⟨(ns.map (fun n : Int => UInt8.ofNat n.toNat)).toArray⟩) w := fun ad cap ns hl => by
        have := run_bytesToString (P := P) w ad n cap ns hl
        rw [fold_push] at this
        simp only [convert, Sem.run_bind, run_underlying hs, run_underlying hd, Result.andThen_ok, run_underlying hu, this]
        congr 3
        simp [ByteArray.empty, ByteArray.emptyWithCapacity]
        rfl
      split at hv
      · rename_i hn
        subst hn
        cases hv
        have hz : ∀ ad : Addr, (loadCells ad 0).run P w = .ok (([] : List Int).map (Value.int .u8)).toArray w := fun ad => by simp [loadCells, loadCellsFrom]
        cases hc with
        | slice => exact done_value he (key _ _ [] (hz _)) (Ctx.le.refl _) h.rel (.string _)
        | empty => exact done_value he (key _ _ [] (hz _)) (Ctx.le.refl _) h.rel (.string _)
      · rename_i hn
        split at hv
        · rename_i l hl
          rw [Option.map_eq_some_iff] at hv
          obtain ⟨r, hr, rfl⟩ := hv
          obtain ⟨hb, hll, us, hul, hcell, hvr⟩ := h.rel.rd hl
          obtain ⟨ns, e1, e2⟩ := bytes_ints c l us r hr (by omega) hvr
          cases hc with
          | slice _ _ _ _ cap =>
            have hld := run_loadCells_list (P := P) w ⟨(c.loc b).1, (c.loc b).2 + off, none⟩ us (fun j u hu => by rw [Addr.add_lit]; exact hcell j u hu)
            rw [hul, e1] at hld
            rw [e2]
            exact done_value he (key _ _ ns hld) (Ctx.le.refl _) h.rel (.string _)
          | empty => exact absurd rfl hn
        · cases hv
    · cases hv
  · cases hv

/-- A slice, a pointer or a function held against nil: is it nil? -/
def nilA (P : Program) (t : TypeId) (x y : Value) : Option Bool :=
  match P.underlying t, x, y with
  | some (.slice _), .slice none _ _, .slice b _ _ => some b.isNone
  | some (.slice _), .slice (some _) _ _, .slice none _ _ => some false
  | some (.pointer _), .pointer none, .pointer b => some b.isNone
  | some (.pointer _), .pointer (some _), .pointer none => some false
  | _, _, _ => none

theorem equalIn_nil {t : TypeId} {x y x' y' : Value} {b : Bool} (hx : VR c x x') (hy : VR c y y') (h : nilA P t x y = some b) (w : World) (d : Nat) : (Op.equalIn (d + 1) t x' y').run P w = .ok b w := by
  unfold nilA at h
  split at h
  · rename_i e n k ad n' k' hu
    cases h
    cases hx with
    | slice0 => cases hy <;> simp [Op.equalIn, run_underlying hu]
  · rename_i e ad n k n' k' hu
    cases h
    cases hy with
    | slice0 => cases hx <;> simp [Op.equalIn, run_underlying hu]
  · rename_i e ad hu
    cases h
    cases hx with
    | ptr0 => cases hy <;> simp [Op.equalIn, run_underlying hu]
  · rename_i e ad hu
    cases h
    cases hy with
    | ptr0 => cases hx <;> simp [Op.equalIn, run_underlying hu]
  · cases h

theorem guard_nil (op : BinOp) (t : TypeId) (p q : Operand) (x y : Value) (h1 : ∀ cs, x ≠ .agg cs) (h2 : x ≠ .nilIface) (w : World) : (eqGuard op t p q x y).run P w = .ok () w := by
  cases x <;> first
    | exact absurd rfl h2
    | exact absurd rfl (h1 _)
    | (cases op <;> rfl)

theorem nilA_run {t : TypeId} {x y x' y' : Value} {b : Bool} (hx : VR c x x') (hy : VR c y y') (h : nilA P t x y = some b) (w : World) : (Op.equal t x' y').run P w = .ok b w ∧
    ∀ (op : BinOp) (p q : Operand), (eqGuard op t p q x' y').run P w = .ok () w := by
  refine ⟨equalIn_nil hx hy h w 9999, fun op p q => guard_nil op t p q x' y' (fun cs e => ?_) (fun e => ?_) w⟩
  · subst e
    unfold nilA at h
    split at h <;> cases hx
    cases h
  · subst e
    unfold nilA at h
    split at h <;> cases hx
    cases h

theorem nil_done (h : Pre G w0 c g S w a ac o) (op : BinOp) (t : TypeId) (x y : Operand) (yt : TypeId) (ho : o.op = .binOp op t x y yt) (hop : op = .eql ∨ op = .neq) (b : Bool) (hv : nilA P t (a.eval x) (a.eval y) = some b) :
    Done P G w0 ac o c w (.bool (if op = .eql then b else !b)) S := by
  have hx := h.ev (x := x) (by simp [ho, Op.operands])
  have hy := h.ev (x := y) (by simp [ho, Op.operands])
  obtain ⟨h1, h2⟩ := nilA_run hx hy hv w
  refine done_value (s := do eqGuard op t x y (ac.eval x) (ac.eval y); binOp op t (ac.eval x) (ac.eval y)) (u := .bool (if op = .eql then b else !b)) (by simp only [execOp, ho]) ?_ (Ctx.le.refl _) h.rel (.bool _)
  rw [Sem.run_bind, h2]
  simp only [Result.andThen_ok]
  have hform : ∀ u u' : Value, VR c (a.eval x) u → VR c (a.eval y) u' → (binOp .eql t u u' = do pure (.bool (← Op.equal t u u'))) ∧ (binOp .neq t u u' = do pure (.bool (!(← Op.equal t u u')))) := fun u u' e1 e2 => by
    unfold nilA at hv
    split at hv
    · rename_i q1 q2; rw [q1] at e1; rw [q2] at e2; cases e1; cases e2 <;> exact ⟨rfl, rfl⟩
    · rename_i q1 q2; rw [q1] at e1; rw [q2] at e2; cases e2; cases e1 <;> exact ⟨rfl, rfl⟩
    · rename_i q1 q2; rw [q1] at e1; rw [q2] at e2; cases e1; cases e2 <;> exact ⟨rfl, rfl⟩
    · rename_i q1 q2; rw [q1] at e1; rw [q2] at e2; cases e2; cases e1 <;> exact ⟨rfl, rfl⟩
    · cases hv
  obtain ⟨f1, f2⟩ := hform _ _ hx hy
  rcases hop with rfl | rfl
  · rw [f1]; simp [h1]
  · rw [f2]; simp [h1]

end Go.Am
