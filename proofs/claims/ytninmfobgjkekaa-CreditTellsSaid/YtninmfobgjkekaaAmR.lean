/- Two abstract memories that differ by the numbers of their newer blocks and families alone stand for the same memory of the model's. Conditions: as each theorem lists them. -/
import Derived.Test.YtninmfobgjkekaaAmS
set_option linter.unusedSimpArgs false
set_option linter.unusedVariables false
namespace Go.Am
open Go Go.RowKit

variable {P : Program} {G : Nat} {w0 w : World} {c c0 : Ctx} {g : Gh} {S S' : St} {a a' ac : Act} {v v' u : Value}

/-- Every entry of a table. -/
def Trie.chk {α : Type} : (Nat → α → Bool) → Trie α → Bool
  | _, .leaf => true
  | p, .node v l r => (match v with | some x => p 0 x | none => true) && (Trie.chk (fun i => p (2 * i + 1)) l && Trie.chk (fun i => p (2 * i + 2)) r)

theorem Trie.chk_get {α : Type} : ∀ (t : Trie α) (p : Nat → α → Bool), t.chk p = true → ∀ (i : Nat) (x : α), t.get i = some x → p i x = true
  | .leaf, p, _, i, x, h => by rw [Trie.get_leaf] at h; cases h
  | .node v l r, p, hc, i, x, h => by
    simp only [Trie.chk, Bool.and_eq_true] at hc
    obtain ⟨h0, hl, hr⟩ := hc
    rw [Trie.get_node] at h
    by_cases hi : i = 0
    · subst hi
      rw [if_pos rfl] at h
      subst h
      exact h0
    · rw [if_neg hi] at h
      by_cases ho : i % 2 = 1
      · rw [if_pos ho] at h
        have := Trie.chk_get l _ hl _ _ h
        rwa [show 2 * (i / 2) + 1 = i by omega] at this
      · rw [if_neg ho] at h
        have := Trie.chk_get r _ hr _ _ h
        rwa [show 2 * (i / 2 - 1) + 2 = i by omega] at this

/-- Numbers behind n0 go by a list of pairs: (in the second memory, in the first). -/
structure Ren where
  n0 : Nat
  l : List (Nat × Nat)

def look (l : List (Nat × Nat)) (x : Nat) : Nat := match l with
  | [] => 0
  | (y, z) :: rest => cond (y == x) z (look rest x)

def Ren.at (r : Ren) (b : Nat) : Nat := if b < r.n0 then b else look r.l b

def Ctx.ren (c : Ctx) (r : Ren) : Ctx := { c with loc := fun b => c.loc (r.at b), es := fun b => c.es (r.at b) }

theorem Ctx.le.ren {r : Ren} (h : c0.le c) (hn : c0.n ≤ r.n0) : c0.le (c.ren r) := by
  have e : ∀ b, b < c0.n → r.at b = b := fun b hb => by unfold Ren.at; rw [if_pos (by omega)]
  refine ⟨h.n, fun b hb => ?_, fun b hb => h.cz b hb, fun b hb => ?_⟩
  · show c.loc (r.at b) = _
    rw [e b hb]; exact h.loc b hb
  · show c.es (r.at b) = _
    rw [e b hb]; exact h.es b hb

/-- A value of the first memory and the same of the second. -/
def vrn (r : Ren) (n : Nat) : Nat → Value → Value → Bool
  | 0, _, _ => false
  | f + 1, v, v' => match v, v' with
    | .bool b, .bool b' => b == b'
    | .int k x, .int k' x' => decide (k = k' ∧ x = x')
    | .float k x, .float k' x' => decide (k = k' ∧ x = x')
    | .string s, .string s' => decide (s = s')
    | .pointer none, .pointer none => true
    | .pointer (some ⟨b, o, none⟩), .pointer (some ⟨b', o', none⟩) => decide (b' < n ∧ r.at b' = b ∧ o = o')
    | .slice none l k, .slice none l' k' => decide (l = l' ∧ k = k')
    | .slice (some ⟨b, o, none⟩) l k, .slice (some ⟨b', o', none⟩) l' k' => decide (b' < n ∧ r.at b' = b ∧ o = o' ∧ l = l' ∧ k = k')
    | .map none, .map none => true
    | .chan none, .chan none => true
    | .nilFunc, .nilFunc => true
    | .nilIface, .nilIface => true
    | .agg xs, .agg ys => decide (xs.size = ys.size) && (xs.toList.zip ys.toList).all fun p => vrn r n f p.1 p.2
    | .tuple xs, .tuple ys => decide (xs.size = ys.size) && (xs.toList.zip ys.toList).all fun p => vrn r n f p.1 p.2
    | .iface t x, .iface t' y => decide (t = t') && vrn r n f x y
    | .func fn xs xs', .func fn' ys ys' => decide (fn = fn') && (decide (xs.size = ys.size) && ((xs.toList.zip ys.toList).all fun p => vrn r n f p.1 p.2) && (decide (xs'.size = ys'.size) && (xs'.toList.zip ys'.toList).all fun p => vrn r n f p.1 p.2))
    | _, _ => false

theorem zip_all {p : Value × Value → Bool} {xs ys : List Value} (h : (xs.zip ys).all p = true) (i : Nat) (x y : Value) (hx : xs[i]? = some x) (hy : ys[i]? = some y) : p (x, y) = true := by
  rw [List.all_eq_true] at h
  exact h _ (List.mem_of_getElem? (show (xs.zip ys)[i]? = some (x, y) by rw [List.getElem?_zip_eq_some]; exact ⟨hx, hy⟩))

theorem vrn_all {r : Ren} {n f : Nat} {c' : Ctx} (ih : ∀ v v' u, vrn r n f v v' = true → VR c v u → VR c' v' u) {xs ys us : Array Value} (hs : xs.size = ys.size) (h : ((xs.toList.zip ys.toList).all fun p => vrn r n f p.1 p.2) = true) (hl : xs.size = us.size)
    (hv : ∀ (i : Nat) (x y : Value), xs[i]? = some x → us[i]? = some y → VR c x y) : ys.size = us.size ∧ ∀ (i : Nat) (x y : Value), ys[i]? = some x → us[i]? = some y → VR c' x y := by
  refine ⟨by omega, fun i y u hy hu => ?_⟩
  have hi : i < xs.size := by rw [hs]; exact (Array.getElem?_eq_some_iff.1 hy).1
  have hx : xs[i]? = some xs[i] := Array.getElem?_eq_getElem hi
  exact ih _ _ _ (zip_all h i xs[i] y (by rw [Array.getElem?_toList]; exact hx) (by rw [Array.getElem?_toList]; exact hy)) (hv i _ _ hx hu)

theorem vrn_ok (r : Ren) (c : Ctx) : ∀ (f : Nat) (v v' u : Value), vrn r c.n f v v' = true → VR c v u → VR (c.ren r) v' u := by
  intro f
  induction f with
  | zero => intro v v' u h; simp [vrn] at h
  | succ f ih =>
    intro v v' u h hv
    unfold vrn at h
    split at h
    · rw [beq_iff_eq] at h; subst h; cases hv; exact .bool _
    · rw [decide_eq_true_eq] at h; obtain ⟨rfl, rfl⟩ := h; cases hv; exact .int _ _
    · rw [decide_eq_true_eq] at h; obtain ⟨rfl, rfl⟩ := h; cases hv; exact .float _ _
    · rw [decide_eq_true_eq] at h; subst h; cases hv; exact .string _
    · cases hv; exact .ptr0
    · rename_i b o b' o'
      rw [decide_eq_true_eq] at h
      obtain ⟨hb, rfl, rfl⟩ := h
      cases hv
      exact VR.ptr (c := c.ren r) b' o hb
    · rw [decide_eq_true_eq] at h; obtain ⟨rfl, rfl⟩ := h; cases hv; exact .slice0
    · rename_i b o l k b' o' l' k'
      rw [decide_eq_true_eq] at h
      obtain ⟨hb, rfl, rfl, rfl, rfl⟩ := h
      cases hv with
      | slice _ _ _ _ m h1 h2 h3 h4 => exact VR.slice (c := c.ren r) b' o l k m hb h2 h3 h4
      | empty _ _ _ ad h1 h2 => exact VR.empty (c := c.ren r) b' o k ad hb h2
    · cases hv; exact .map0
    · cases hv; exact .chan0
    · cases hv; exact .nilFunc
    · cases hv; exact .nilIface
    · rw [Bool.and_eq_true, decide_eq_true_eq] at h
      cases hv with
      | agg _ us hl hh =>
        obtain ⟨h1, h2⟩ := vrn_all ih h.1 h.2 hl hh
        exact .agg _ _ h1 h2
    · rw [Bool.and_eq_true, decide_eq_true_eq] at h
      cases hv with
      | tuple _ us hl hh =>
        obtain ⟨h1, h2⟩ := vrn_all ih h.1 h.2 hl hh
        exact .tuple _ _ h1 h2
    · rw [Bool.and_eq_true, decide_eq_true_eq] at h
      obtain ⟨rfl, h2⟩ := h
      cases hv with
      | iface _ _ y hh => exact .iface _ _ _ (ih _ _ _ h2 hh)
    · simp only [Bool.and_eq_true, decide_eq_true_eq] at h
      obtain ⟨rfl, ⟨h1, h2⟩, h3, h4⟩ := h
      cases hv with
      | func _ _ us _ us' hl hh hl' hh' =>
        obtain ⟨k1, k2⟩ := vrn_all ih h1 h2 hl hh
        obtain ⟨k3, k4⟩ := vrn_all ih h3 h4 hl' hh'
        exact .func _ _ _ _ _ k1 k2 k3 k4
    · cases h

def Gh.ren (g : Gh) (t : Ren) : Gh := { g with own := fun x => (g.own x).map t.at }

/-- The second memory is the first, but for the numbers of blocks (r) and of families (t: from the first's to the second's). -/
def isoS (r t : Ren) (S S' : St) : Bool :=
  decide (S'.nb = S.nb ∧ S'.nf = S.nf) && ((List.range S.nb).all (fun b => decide (r.at b < S.nb)) && ((List.range S.nf).all (fun φ => decide (t.at φ < S.nf)) &&
    (S'.fams.chk (fun φ _ => decide (φ < S.nf)) &&
      S'.blks.chk fun b k' => decide (b < S.nb) && match S.blks.get (r.at b), S'.fams.get k'.fam with
        | some k, some f' => match S.fams.get k.fam with
          | some f => decide (k.sz = k'.sz ∧ t.at k.fam = k'.fam ∧ k.ep = k'.ep ∧ k.fo = k'.fo ∧ k.cells.length = k'.cells.length ∧ f.ep = f'.ep ∧ f.hw = f'.hw ∧ f.ro = f'.ro) && (k.cells.zip k'.cells).all fun p => vrn r S.nb 8 p.1 p.2
          | none => false
        | _, _ => false)))

theorem Rel.ren {r t : Ren} (h : Rel G w0 c g S w) (hG : G ≤ r.n0) (hi : isoS r t S S' = true) : Rel G w0 (c.ren r) (g.ren t) S' w := by
  unfold isoS at hi
  simp only [Bool.and_eq_true, decide_eq_true_eq, List.all_eq_true, List.mem_range] at hi
  obtain ⟨⟨hnb, hnf⟩, hb, hf, hfc, hbc⟩ := hi
  refine ⟨hnb.trans h.n, ⟨h.glob.1, fun i hi => ?_⟩, h.below, fun b k' hk' => ?_, fun x φ hx => ?_, fun φ f hφ => ?_, fun b hb' => ?_⟩
  · show c.loc (r.at i) = _
    unfold Ren.at
    rw [if_pos (by omega)]
    exact h.glob.2 i hi
  · have hc := Trie.chk_get _ _ hbc b k' hk'
    simp only [Bool.and_eq_true, decide_eq_true_eq] at hc
    obtain ⟨hlt, hc⟩ := hc
    split at hc
    · rename_i k f' hk hf'
      split at hc
      · rename_i f hff
        simp only [Bool.and_eq_true, decide_eq_true_eq] at hc
        obtain ⟨⟨e1, e2, e3, e4, e5, e6, e7, e8⟩, hz⟩ := hc
        obtain ⟨f1, cur, e, fr, ok⟩ := h.blk _ k hk
        obtain rfl : f1 = f := by have := ok.fam.symm.trans hff; exact Option.some.inj this
        refine ⟨f', cur, e, fr, ⟨by show b < c.n; rw [← h.n]; exact hlt, ok.es.trans e1, hf', ok.heap, ok.size, fun hr => ?_, fun hr => ?_, by rw [← e5]; exact ok.fit, by rw [← e3, ← e6]; exact ok.ep, fun he => ?_, fun he i v hv => ?_⟩⟩
        · obtain ⟨h1, h2, h3⟩ := ok.own (e8.trans hr)
          refine ⟨?_, h2, h3.trans e4⟩
          show (g.own (c.loc (r.at b)).1).map t.at = _
          rw [h1, Option.map_some, e2]
        · show (g.own (c.loc (r.at b)).1).map t.at = _
          rw [ok.ro (e8.trans hr)]
          rfl
        · rw [← e4, ← e5, ← e7]
          exact ok.hw (by omega)
        · have hlt2 : i < k.cells.length := by rw [e5]; exact (List.getElem?_eq_some_iff.1 hv).1
          obtain ⟨u, hu, hvr⟩ := ok.cells (by omega) i _ (List.getElem?_eq_getElem hlt2)
          have hz1 : vrn r S.nb 8 k.cells[i] v = true := zip_all (p := fun p => vrn r S.nb 8 p.1 p.2) hz i _ _ (List.getElem?_eq_getElem hlt2) hv
          rw [h.n] at hz1
          exact ⟨u, hu, vrn_ok r c 8 _ _ _ hz1 hvr⟩
      · cases hc
    · cases hc
  · have hx' : (g.own x).map t.at = some φ := hx
    rw [Option.map_eq_some_iff] at hx'
    obtain ⟨ψ, hψ, rfl⟩ := hx'
    obtain ⟨h1, h2, h3⟩ := h.own x ψ hψ
    exact ⟨h1, h2, by rw [hnf]; exact hf ψ h3⟩
  · have := Trie.chk_get _ _ hfc φ f hφ
    rw [decide_eq_true_eq] at this
    rw [hnf]
    exact this
  · show (c.loc (r.at b)).1 < _
    exact h.all _ (by rw [← h.n]; exact hb b (by rw [h.n]; exact hb'))

/-- The same of a frame. -/
def isoA (r : Ren) (n : Nat) (a a' : Act) : Bool := a.defers.isEmpty && (a'.defers.isEmpty && (decide (a.tmps.size = a'.tmps.size) && (a.tmps.toList.zip a'.tmps.toList).all fun p => vrn r n 8 p.1 p.2))

theorem ActR.ren {r : Ren} (h : ActR c a ac) (hi : isoA r c.n a a' = true) : ActR (c.ren r) a' ac := by
  unfold isoA at hi
  simp only [Bool.and_eq_true, decide_eq_true_eq] at hi
  obtain ⟨_, hd, hs, hz⟩ := hi
  obtain ⟨h1, h2⟩ := vrn_all (c := c) (c' := c.ren r) (fun v v' u => vrn_ok r c 8 v v' u) hs hz h.size h.get
  exact ⟨h1, h2, by simpa using hd, h.dc⟩

end Go.Am
