/- The abstract memory of the evaluator: blocks of cells, families of blocks that may share memory, and the relation between them and the model's memory. Conditions: none. -/
import Derived.Orders
import Derived.Below
import Derived.Laws.AppendOwn
import Derived.Laws.MakeOwn
import Derived.Laws.BytesString
import Derived.Tactics
set_option linter.unusedSimpArgs false
set_option linter.unusedVariables false
namespace Go.Am
open Go

inductive Trie (α : Type) where
  | leaf
  | node (v : Option α) (l r : Trie α)

def Trie.get {α : Type} : Trie α → Nat → Option α
  | .leaf, _ => none
  | .node v l r, i => cond (i == 0) v (cond (i % 2 == 1) (l.get (i / 2)) (r.get (i / 2 - 1)))

def Trie.set {α : Type} : Nat → Trie α → Nat → α → Trie α
  | 0, t, _, _ => t
  | f + 1, .leaf, i, x => cond (i == 0) (.node (some x) .leaf .leaf) (cond (i % 2 == 1) (.node none (Trie.set f .leaf (i / 2) x) .leaf) (.node none .leaf (Trie.set f .leaf (i / 2 - 1) x)))
  | f + 1, .node v l r, i, x => cond (i == 0) (.node (some x) l r) (cond (i % 2 == 1) (.node v (Trie.set f l (i / 2) x) r) (.node v l (Trie.set f r (i / 2 - 1) x)))

theorem Trie.get_leaf {α : Type} (i : Nat) : (Trie.leaf : Trie α).get i = none := rfl
theorem Trie.get_node {α : Type} (v : Option α) (l r : Trie α) (i : Nat) : (Trie.node v l r).get i = if i = 0 then v else if i % 2 = 1 then l.get (i / 2) else r.get (i / 2 - 1) := by
  simp only [Trie.get]
  by_cases h : i = 0
  · have e : (i == 0) = true := by simpa using h
    rw [e, if_pos h, cond_true]
  · have e : (i == 0) = false := by simpa using h
    rw [e, if_neg h, cond_false]
    by_cases h2 : i % 2 = 1
    · have e2 : (i % 2 == 1) = true := by simpa using h2
      rw [e2, if_pos h2, cond_true]
    · have e2 : (i % 2 == 1) = false := by simpa using h2
      rw [e2, if_neg h2, cond_false]

theorem Trie.get_node_set {α : Type} (f : Nat) (ih : ∀ (t : Trie α) (i : Nat) (x : α) (j : Nat), i + 1 < 2 ^ f → (t.set f i x).get j = if j = i then some x else t.get j)
    (v : Option α) (l r : Trie α) (i : Nat) (x : α) (j : Nat) (h : i + 1 < 2 * 2 ^ f) :
    (cond (i == 0) (Trie.node (some x) l r) (cond (i % 2 == 1) (.node v (Trie.set f l (i / 2) x) r) (.node v l (Trie.set f r (i / 2 - 1) x)))).get j = if j = i then some x else (Trie.node v l r).get j := by
  by_cases hi : i = 0
  · subst hi
    have : ((0 : Nat) == 0) = true := rfl
    rw [this, cond_true, Trie.get_node, Trie.get_node]
    by_cases hj : j = 0
    · rw [if_pos hj, if_pos hj]
    · rw [if_neg hj, if_neg hj, if_neg hj]
  · have e0 : (i == 0) = false := by simpa using hi
    rw [e0, cond_false]
    by_cases ho : i % 2 = 1
    · have e1 : (i % 2 == 1) = true := by simpa using ho
      rw [e1, cond_true, Trie.get_node, Trie.get_node, ih _ _ _ _ (by omega)]
      by_cases hj : j = 0
      · rw [if_pos hj, if_pos hj, if_neg (by omega)]
      · rw [if_neg hj, if_neg hj]
        by_cases hjo : j % 2 = 1
        · rw [if_pos hjo, if_pos hjo]
          by_cases hij : j = i
          · rw [if_pos (by rw [hij]), if_pos hij]
          · rw [if_neg (by omega), if_neg hij]
        · rw [if_neg hjo, if_neg hjo, if_neg (by rintro rfl; exact hjo ho)]
    · have e1 : (i % 2 == 1) = false := by simpa using ho
      rw [e1, cond_false, Trie.get_node, Trie.get_node, ih _ _ _ _ (by omega)]
      by_cases hj : j = 0
      · rw [if_pos hj, if_pos hj, if_neg (by omega)]
      · rw [if_neg hj, if_neg hj]
        by_cases hjo : j % 2 = 1
        · rw [if_pos hjo, if_pos hjo, if_neg (by rintro rfl; exact ho hjo)]
        · rw [if_neg hjo, if_neg hjo]
          by_cases hij : j = i
          · rw [if_pos (by rw [hij]), if_pos hij]
          · rw [if_neg (by omega), if_neg hij]

theorem Trie.get_set {α : Type} : ∀ (f : Nat) (t : Trie α) (i : Nat) (x : α) (j : Nat), i + 1 < 2 ^ f → (t.set f i x).get j = if j = i then some x else t.get j := by
  intro f
  induction f with
  | zero => intro t i x j h; simp at h
  | succ f ih =>
    intro t i x j h
    have hp : 2 ^ (f + 1) = 2 * 2 ^ f := by rw [Nat.pow_succ]; omega
    rw [hp] at h
    cases t with
    | leaf =>
      have := Trie.get_node_set f ih none .leaf .leaf i x j h
      rw [Trie.get_node (none : Option α)] at this
      simp only [Trie.get_leaf, ite_self] at this
      exact this
    | node v l r => exact Trie.get_node_set f ih v l r i x j h

/-- A block: its elements' size in cells, its cells, its family, the epoch in which it was true last, its place in its family. -/
structure Blk where
  sz : Nat
  cells : List Value
  fam : Nat
  ep : Nat
  fo : Nat

structure Fam where
  ep : Nat
  hw : Nat
  ro : Bool

structure St where
  nb : Nat
  blks : Trie Blk
  nf : Nat
  fams : Trie Fam

abbrev depth : Nat := 24
def limit : Nat := 16000000

/-- What relates abstract places to the model's: how many blocks there are, where each lies, how many cells each of the model's blocks has, each block's elements' size. -/
structure Ctx where
  n : Nat
  loc : Nat → Nat × Nat
  cz : Nat → Nat
  es : Nat → Nat

structure Ctx.le (c c' : Ctx) : Prop where
  n : c.n ≤ c'.n
  loc : ∀ b, b < c.n → c'.loc b = c.loc b
  cz : ∀ b, b < c.n → c'.cz (c.loc b).1 = c.cz (c.loc b).1
  es : ∀ b, b < c.n → c'.es b = c.es b

theorem Ctx.le.refl (c : Ctx) : c.le c := ⟨Nat.le_refl _, fun _ _ => rfl, fun _ _ => rfl, fun _ _ => rfl⟩
theorem Ctx.le.trans {a b c : Ctx} (h : a.le b) (k : b.le c) : a.le c :=
  ⟨Nat.le_trans h.n k.n, fun i hi => (k.loc i (Nat.lt_of_lt_of_le hi h.n)).trans (h.loc i hi),
   fun i hi => by
    have h1 := k.cz i (Nat.lt_of_lt_of_le hi h.n)
    rw [h.loc i hi] at h1
    exact h1.trans (h.cz i hi),
   fun i hi => (k.es i (Nat.lt_of_lt_of_le hi h.n)).trans (h.es i hi)⟩

/-- An abstract value and the model's. A slice's capacity: 0: not known; k + 1: it is k. -/
inductive VR (c : Ctx) : Value → Value → Prop where
  | bool (b : Bool) : VR c (.bool b) (.bool b)
  | int (k : IntKind) (n : Int) : VR c (.int k n) (.int k n)
  | float (k : FloatKind) (b : Nat) : VR c (.float k b) (.float k b)
  | complex (k : FloatKind) (x y : Nat) : VR c (.complex k x y) (.complex k x y)
  | string (s : ByteArray) : VR c (.string s) (.string s)
  | ptr0 : VR c (.pointer none) (.pointer none)
  | ptr (b off : Nat) (h : b < c.n) : VR c (.pointer (some ⟨b, off, none⟩)) (.pointer (some ⟨(c.loc b).1, (c.loc b).2 + off, none⟩))
  | slice0 : VR c (.slice none 0 0) (.slice none 0 0)
  | slice (b off n k m : Nat) (h : b < c.n) (hn : n ≤ m) (hk : k = 0 ∨ k = m + 1) (hc : (c.loc b).2 + off + m * c.es b ≤ c.cz (c.loc b).1) :
      VR c (.slice (some ⟨b, off, none⟩) n k) (.slice (some ⟨(c.loc b).1, (c.loc b).2 + off, none⟩) n m)
  | empty (b off k : Nat) (a : Addr) (h : b < c.n) (hk : k = 0 ∨ k = 1) : VR c (.slice (some ⟨b, off, none⟩) 0 k) (.slice (some a) 0 0)
  | map0 : VR c (.map none) (.map none)
  | chan0 : VR c (.chan none) (.chan none)
  | nilFunc : VR c .nilFunc .nilFunc
  | nilIface : VR c .nilIface .nilIface
  | agg (xs ys : Array Value) (hl : xs.size = ys.size) (h : ∀ (i : Nat) (x y : Value), xs[i]? = some x → ys[i]? = some y → VR c x y) : VR c (.agg xs) (.agg ys)
  | tuple (xs ys : Array Value) (hl : xs.size = ys.size) (h : ∀ (i : Nat) (x y : Value), xs[i]? = some x → ys[i]? = some y → VR c x y) : VR c (.tuple xs) (.tuple ys)
  | iface (t : TypeId) (x y : Value) (h : VR c x y) : VR c (.iface t x) (.iface t y)
  | func (fn : Fn) (xs ys xs' ys' : Array Value) (hl : xs.size = ys.size) (h : ∀ (i : Nat) (x y : Value), xs[i]? = some x → ys[i]? = some y → VR c x y)
      (hl' : xs'.size = ys'.size) (h' : ∀ (i : Nat) (x y : Value), xs'[i]? = some x → ys'[i]? = some y → VR c x y) : VR c (.func fn xs xs') (.func fn ys ys')

theorem VR.mono {c c' : Ctx} (hc : c.le c') {x y : Value} (h : VR c x y) : VR c' x y := by
  induction h with
  | bool b => exact .bool b
  | int k n => exact .int k n
  | float k b => exact .float k b
  | complex k x y => exact .complex k x y
  | string s => exact .string s
  | ptr0 => exact .ptr0
  | ptr b off h =>
    have := VR.ptr (c := c') b off (Nat.lt_of_lt_of_le h hc.n)
    rwa [hc.loc b h] at this
  | slice0 => exact .slice0
  | slice b off n k m h hn hk hcap =>
    have := VR.slice (c := c') b off n k m (Nat.lt_of_lt_of_le h hc.n) hn hk (by rw [hc.loc b h, hc.es b h, hc.cz b h]; exact hcap)
    rwa [hc.loc b h] at this
  | empty b off k a h hk => exact .empty b off k a (Nat.lt_of_lt_of_le h hc.n) hk
  | map0 => exact .map0
  | chan0 => exact .chan0
  | nilFunc => exact .nilFunc
  | nilIface => exact .nilIface
  | agg xs ys hl _ ih => exact .agg xs ys hl fun i x y hx hy => ih i x y hx hy
  | tuple xs ys hl _ ih => exact .tuple xs ys hl fun i x y hx hy => ih i x y hx hy
  | iface t x y _ ih => exact .iface t x y ih
  | func fn xs ys xs' ys' hl _ hl' _ ih ih' => exact .func fn xs ys xs' ys' hl (fun i x y hx hy => ih i x y hx hy) hl' fun i x y hx hy => ih' i x y hx hy

/-- Values without an address. -/
def af : Nat → Value → Bool
  | 0, _ => false
  | n + 1, v => match v with
    | .bool _ | .int _ _ | .float _ _ | .complex _ _ _ | .string _ | .pointer none | .slice none 0 0 | .map none | .chan none | .nilFunc | .nilIface => true
    | .agg xs | .tuple xs => xs.toList.all (af n)
    | .iface _ x => af n x
    | .func _ xs ys => xs.toList.all (af n) && ys.toList.all (af n)
    | _ => false

theorem all_get {p : Value → Bool} {xs : Array Value} (h : xs.toList.all p = true) {i : Nat} {x : Value} (hx : xs[i]? = some x) : p x = true := by
  rw [List.all_eq_true] at h
  exact h x (by rw [Array.mem_toList_iff]; exact Array.mem_of_getElem? hx)

theorem af_refl (c : Ctx) : ∀ (n : Nat) (v : Value), af n v = true → VR c v v
  | 0, _, h => by simp [af] at h
  | n + 1, v, h => by
    have arr : ∀ xs : Array Value, xs.toList.all (af n) = true → ∀ (i : Nat) (x y : Value), xs[i]? = some x → xs[i]? = some y → VR c x y := fun xs hx i x y h1 h2 => by
      rw [h1] at h2
      cases h2
      exact af_refl c n x (all_get hx h1)
    unfold af at h
    split at h
    · exact .bool _
    · exact .int _ _
    · exact .float _ _
    · exact .complex _ _ _
    · exact .string _
    · exact .ptr0
    · exact .slice0
    · exact .map0
    · exact .chan0
    · exact .nilFunc
    · exact .nilIface
    · exact .agg _ _ rfl (arr _ h)
    · exact .tuple _ _ rfl (arr _ h)
    · exact .iface _ _ _ (af_refl c n _ h)
    · rw [Bool.and_eq_true] at h
      exact .func _ _ _ _ _ rfl (arr _ h.1) rfl (arr _ h.2)
    · cases h

theorem arr_ext {xs ys : Array Value} (hl : xs.size = ys.size) (h : ∀ (i : Nat) (x y : Value), xs[i]? = some x → ys[i]? = some y → y = x) : ys = xs := by
  apply Array.ext hl.symm
  intro i h1 h2
  exact h i xs[i] ys[i] (Array.getElem?_eq_getElem h2) (Array.getElem?_eq_getElem h1)

theorem af_eq {c : Ctx} : ∀ (n : Nat) (v u : Value), af n v = true → VR c v u → u = v
  | 0, _, _, h, _ => by simp [af] at h
  | n + 1, v, u, h, hv => by
    have arr : ∀ xs ys : Array Value, xs.toList.all (af n) = true → xs.size = ys.size → (∀ (i : Nat) (x y : Value), xs[i]? = some x → ys[i]? = some y → VR c x y) → ys = xs := fun xs ys hx hl hh =>
      arr_ext hl fun i x y h1 h2 => af_eq n x y (all_get hx h1) (hh i x y h1 h2)
    unfold af at h
    cases hv with
    | agg xs ys hl hh => rw [arr xs ys h hl hh]
    | tuple xs ys hl hh => rw [arr xs ys h hl hh]
    | iface t x y hh => rw [af_eq n x y h hh]
    | func fn xs ys xs' ys' hl hh hl' hh' =>
      simp only [Bool.and_eq_true] at h
      rw [arr xs ys h.1 hl hh, arr xs' ys' h.2 hl' hh']
    | ptr b off hb => simp at h
    | slice b off n k m hb hn hk hc => simp at h
    | empty b off k a hb hk => simp at h
    | _ => rfl

end Go.Am
