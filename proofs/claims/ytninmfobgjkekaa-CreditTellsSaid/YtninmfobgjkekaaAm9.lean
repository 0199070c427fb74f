/- One operation, a function's code, a call, evaluated over the abstract memory; and that the model does the same. Conditions: as each theorem lists them. -/
import Derived.Test.YtninmfobgjkekaaAmT
import Derived.Test.YtninmfobgjkekaaAmC
import Derived.LoopN
set_option linter.unusedSimpArgs false
set_option linter.unusedVariables false
namespace Go.Am
open Go Go.RowKit

variable {P : Program} {G : Nat} {w0 w : World} {c : Ctx} {g : Gh} {S S' : St} {a ac : Act} {o : Oper} {v : Value}

def pureA (P : Program) (a : Act) (o : Oper) (S : St) : Option (Value × St) := (evPure P a o).map fun v => (v, S)

/-- One operation that calls no function. -/
def evOp (P : Program) (a : Act) (o : Oper) (S : St) : Option (Value × St) :=
  match o.op with
  | .move x | .assign x => some (a.eval x, S)
  | .pick cc x y => match a.eval cc with
    | .bool b => some (cond b (a.eval x) (a.eval y), S)
    | _ => none
  | .extract x i => match a.eval x with
    | .tuple vs => (vs[i]?).map fun v => (v, S)
    | _ => none
  | .load t x => match a.eval x with
    | .pointer (some ⟨b, off, none⟩) => (ldA P S t b off).map fun v => (v, S)
    | _ => none
  | .store t x y => match a.eval x with
    | .pointer (some ⟨b, off, none⟩) => (stA P S t b off (a.eval y)).map fun S' => (undef, S')
    | _ => none
  | .box _ x => boxA S (a.eval x)
  | .alloc e => match P.info? e with
    | some i => match i.zero with
      | some z => if af 8 z = true then boxA S z else none
      | none => none
    | none => none
  | .build t parts => (buildA P t (parts.map fun (i, x) => (i, a.eval x))).map fun v => (v, S)
  | .buildSlice t len parts => if len = 0 ∧ parts.size = 0 then lit0A P S t else litA P S t len (parts.map fun (i, x) => (i, a.eval x))
  | .makeSlice t x y => match a.eval x, a.eval y with
    | .int _ l, .int _ m => makeA P S t l m
    | _, _ => none
  | .slice t x lo hi mx => match a.eval x with
    | .slice _ _ _ => (sliceA P S t (a.eval x) (lo.map a.eval) (hi.map a.eval) (mx.map a.eval)).map fun v => (v, S)
    | _ => pureA P a o S
  | .fieldAddr t x f => match P.underlying t, a.eval x with
    | some (.struct fs), .pointer (some ⟨b, off, none⟩) => match fs[f]? with
      | some fd => match P.info? fd.type with
        | some j => if j.size ≠ 0 then some (.pointer (some ⟨b, off + fd.offset, none⟩), S) else none
        | none => none
      | none => none
    | _, _ => none
  | .indexAddr t x y => match a.eval y with
    | .int _ i => (ixA P t (a.eval x) i).map fun v => (v, S)
    | _ => none
  | .nilCheck x => match a.eval x with
    | .pointer (some ad) => some (.pointer (some ad), S)
    | _ => none
  | .field t x f => match P.underlying t, a.eval x with
    | some (.struct fs), .agg cs => match fs[f]? with
      | some fd => (partA P fd.type cs fd.offset).map fun v => (v, S)
      | none => none
    | _, _ => none
  | .index t x y => match P.underlying t, a.eval x, a.eval y with
    | some (.array len e), .agg cs, .int _ i => match P.info? e with
      | some j => if 0 ≤ i ∧ i < len then (partA P e cs (i.toNat * j.size)).map fun v => (v, S) else none
      | none => none
    | _, _, _ => pureA P a o S
  | .convert s d x => match a.eval x with
    | .slice _ _ _ => match strA P S s d (a.eval x) with
      | some v => some (v, S)
      | none => (markA P S s d (a.eval x)).map fun S' => (a.eval x, S')
    | _ => pureA P a o S
  | .binOp op t x y _ => match a.eval x, a.eval y with
    | .int _ _, _ => pureA P a o S
    | _, _ => if op = .eql ∨ op = .neq then match nilA P t (a.eval x) (a.eval y) with
        | some b => some (.bool (if op = .eql then b else !b), S)
        | none => pureA P a o S
      else pureA P a o S
  | .call k => match k.callee, k.args.toList, k.argTypes.toList with
    | .builtin .len, [x], [t] => match lenA P t (a.eval x) with
      | some v => some (v, S)
      | none => pureA P a o S
    | .builtin .cap, [x], [t] => (capA P t (a.eval x)).map fun v => (v, S)
    | .builtin .append, [s, x], [t, tx] => appA P S t tx (a.eval s) (a.eval x)
    | .builtin .copy, [d, x], [t, _] => copyA P S t (a.eval d) (a.eval x)
    | _, _, _ => pureA P a o S
  | _ => pureA P a o S

theorem pureA_done (h : Pre G w0 c g S w a ac o) (hv : pureA P a o S = some (v, S')) : Done P G w0 ac o c w v S' := by
  unfold pureA at hv
  rw [Option.map_eq_some_iff] at hv
  obtain ⟨v', hv', e⟩ := hv
  cases e
  exact evPure_done h.rel h.act h.opnd hv'

theorem evOp_done (h : Pre G w0 c g S w a ac o) (hv : evOp P a o S = some (v, S')) : Done P G w0 ac o c w v S' := by
  have m1 : ∀ {x : Option Value}, (x.map fun v => (v, S)) = some (v, S') → x = some v ∧ S' = S := fun e => by
    rw [Option.map_eq_some_iff] at e
    obtain ⟨v', h1, e⟩ := e
    cases e
    exact ⟨h1, rfl⟩
  unfold evOp at hv
  split at hv
  · rename_i x ho; cases hv; exact move_done h x (.inl ho)
  · rename_i x ho; cases hv; exact move_done h x (.inr ho)
  · rename_i cc x y ho
    split at hv
    · rename_i b hb; cases hv; exact pick_done h cc x y ho b hb
    · cases hv
  · rename_i x i ho
    split at hv
    · rename_i vs hvs
      obtain ⟨h1, rfl⟩ := m1 hv
      exact extract_done h x i ho vs hvs h1
    · cases hv
  · rename_i t x ho
    split at hv
    · rename_i b off hx
      obtain ⟨h1, rfl⟩ := m1 hv
      exact load_done h t x ho b off hx h1
    · cases hv
  · rename_i t x y ho
    split at hv
    · rename_i b off hx
      rw [Option.map_eq_some_iff] at hv
      obtain ⟨S1, h1, e⟩ := hv
      cases e
      exact store_done h t x y ho b off hx h1
    · cases hv
  · rename_i e x ho; exact box_done h e x ho hv
  · rename_i e ho
    split at hv
    · rename_i i hi
      split at hv
      · rename_i z hz
        split at hv
        · rename_i haf; exact alloc_done h e ho i hi z hz haf hv
        · cases hv
      · cases hv
    · cases hv
  · rename_i t parts ho
    obtain ⟨h1, rfl⟩ := m1 hv
    exact build_done h t parts ho h1
  · rename_i t len parts ho
    split at hv
    · rename_i h0
      obtain ⟨rfl, hp⟩ := h0
      obtain rfl : parts = #[] := Array.eq_empty_of_size_eq_zero hp
      exact lit0_done h t ho hv
    · exact lit_done h t len parts ho hv
  · rename_i t x y ho
    split at hv
    · rename_i kl l km m hx hy; exact make_done h t x y ho kl km l m hx hy hv
    · cases hv
  · rename_i t x lo hi mx ho
    split at hv
    · obtain ⟨h1, rfl⟩ := m1 hv
      exact slice_done h t x lo hi mx ho h1
    · exact pureA_done h hv
  · rename_i t x f ho
    split at hv
    · rename_i fs b off hu hx
      split at hv
      · rename_i fd hf
        split at hv
        · rename_i j hj
          split at hv
          · rename_i hsz; cases hv; exact fieldAddr_done h t x f ho fs hu fd hf j hj hsz b off hx
          · cases hv
        · cases hv
      · cases hv
    · cases hv
  · rename_i t x y ho
    split at hv
    · rename_i k i hy
      obtain ⟨h1, rfl⟩ := m1 hv
      exact indexAddr_done h t x y ho k i hy h1
    · cases hv
  · rename_i x ho
    split at hv
    · rename_i ad hx; cases hv; exact nilCheck_done h x ho ad hx
    · cases hv
  · rename_i t x f ho
    split at hv
    · rename_i fs cs hu hx
      split at hv
      · rename_i fd hf
        obtain ⟨h1, rfl⟩ := m1 hv
        exact field_done h t x f ho fs hu fd hf cs hx h1
      · cases hv
    · cases hv
  · rename_i t x y ho
    split at hv
    · rename_i len e cs k i hu hx hy
      split at hv
      · rename_i j hj
        split at hv
        · rename_i hi
          obtain ⟨h1, rfl⟩ := m1 hv
          exact index_done h t x y ho len e hu j hj cs hx k i hy hi h1
        · cases hv
      · cases hv
    · exact pureA_done h hv
  · rename_i s d x ho
    split at hv
    · split at hv
      · rename_i v' hs
        cases hv
        exact str_done h s d x ho hs
      · rw [Option.map_eq_some_iff] at hv
        obtain ⟨S1, h1, e⟩ := hv
        cases e
        exact mark_done h s d x ho h1
    · exact pureA_done h hv
  · rename_i op t x y yt ho
    split at hv
    · exact pureA_done h hv
    · split at hv
      · rename_i hop
        split at hv
        · rename_i b hb; cases hv; exact nil_done h op t x y yt ho hop b hb
        · exact pureA_done h hv
      · exact pureA_done h hv
  · rename_i k ho
    have arr : ∀ {α : Type} (xs : Array α) (l : List α), xs.toList = l → xs = l.toArray := fun xs l e => by rw [← e]
    split at hv
    · rename_i x t hc hargs hts
      split at hv
      · rename_i v' hl
        cases hv
        exact len_done h x t (by rw [ho]; cases k; simp only at hc hargs hts; rw [hc, arr _ _ hargs, arr _ _ hts]) hl
      · exact pureA_done h hv
    · rename_i x t hc hargs hts
      obtain ⟨h1, rfl⟩ := m1 hv
      exact cap_done h x t (by rw [ho]; cases k; simp only at hc hargs hts; rw [hc, arr _ _ hargs, arr _ _ hts]) h1
    · rename_i s x t tx hc hargs hts
      exact app_done h s x t tx (by rw [ho]; cases k; simp only at hc hargs hts; rw [hc, arr _ _ hargs, arr _ _ hts]) hv
    · rename_i d x t tx hc hargs hts
      exact copy_done h d x t tx (by rw [ho]; cases k; simp only at hc hargs hts; rw [hc, arr _ _ hargs, arr _ _ hts]) hv
    · exact pureA_done h hv
  · exact pureA_done h hv

end Go.Am
