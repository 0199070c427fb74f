/- Literals, make, slicing, append, bytes as a string, over the abstract memory, and that the model's operations do the same. Conditions: as each theorem lists them. -/
import Derived.Test.YtninmfobgjkekaaAm4
set_option linter.unusedSimpArgs false
set_option linter.unusedVariables false
namespace Go.Am
open Go Go.RowKit

variable {P : Program} {G : Nat} {w0 w : World} {c : Ctx} {g : Gh} {S S' : St} {a ac : Act} {o : Oper} {v : Value}

theorem parts_rel (h : Pre G w0 c g S w a ac o) (parts : Array (Nat × Operand)) (hop : ∀ p ∈ parts, p.2 ∈ o.op.operands) :
    (parts.map fun (i, x) => (i, a.eval x)).toList.length = (parts.map fun (i, x) => (i, ac.eval x)).toList.length ∧
    ∀ (i : Nat) (x y : Nat × Value), (parts.map fun (i, x) => (i, a.eval x)).toList[i]? = some x → (parts.map fun (i, x) => (i, ac.eval x)).toList[i]? = some y → x.1 = y.1 ∧ VR c x.2 y.2 := by
  refine ⟨by simp, fun i x y hx hy => ?_⟩
  simp only [Array.toList_map, List.getElem?_map, Option.map_eq_some_iff] at hx hy
  obtain ⟨p, hp, rfl⟩ := hx
  obtain ⟨q, hq, rfl⟩ := hy
  rw [hp] at hq
  cases hq
  exact ⟨rfl, h.ev (hop p (by rw [← Array.mem_toList_iff]; exact List.mem_of_getElem? hp))⟩

/-- A struct's or an array's value. -/
def buildA (P : Program) (t : TypeId) (parts : Array (Nat × Value)) : Option Value :=
  match P.info? t, P.underlying t with
  | some i, some (.struct fs) => match i.zero with
    | some z => if af 8 z = true then
        match fs.mapM (m := Option) (fun f => (P.info? f.type).map fun j => (f.offset, j.size)) with
        | some places => (Instr.fill (places[·]?) z.cells parts.toList).map .agg
        | none => none
      else none
    | none => none
  | some i, some (.array _ e) => match i.zero, P.info? e with
    | some z, some j => if af 8 z = true then (Instr.fill (fun i => some (i * j.size, j.size)) z.cells parts.toList).map .agg else none
    | _, _ => none
  | _, _ => none

theorem run_places {fs : Array Field} {places : Array (Nat × Nat)} (h : fs.mapM (m := Option) (fun f => (P.info? f.type).map fun j => (f.offset, j.size)) = some places) (w : World) :
    (fs.mapM fun f => do pure (f.offset, ← sizeOf f.type) : Sem (Array (Nat × Nat))).run P w = .ok places w := by
  rw [Array.mapM_eq_mapM_toList] at h ⊢
  rw [Option.map_eq_map, Option.map_eq_some_iff] at h
  obtain ⟨l, hl, rfl⟩ := h
  have key : ∀ (fl : List Field) (l : List (Nat × Nat)), fl.mapM (m := Option) (fun f => (P.info? f.type).map fun j => (f.offset, j.size)) = some l →
      (fl.mapM fun f => do pure (f.offset, ← sizeOf f.type) : Sem (List (Nat × Nat))).run P w = .ok l w := by
    intro fl
    induction fl with
    | nil => intro l h; simp at h; subst h; simp
    | cons f fl ih =>
      intro l h
      simp only [List.mapM_cons, bind, Option.bind_eq_some_iff] at h
      obtain ⟨p, hp, h⟩ := h
      obtain ⟨l', hl', h⟩ := h
      simp only [pure, Option.some.injEq] at h
      subst h
      rw [Option.map_eq_some_iff] at hp
      obtain ⟨j, hj, rfl⟩ := hp
      rw [List.mapM_cons]
      simp only [Sem.run_bind, run_sizeOf hj, Result.andThen_ok, Sem.run_pure, ih l' hl']
  rw [Sem.run_map, key _ _ hl]
  rfl

theorem build_done (h : Pre G w0 c g S w a ac o) (t : TypeId) (parts : Array (Nat × Operand)) (ho : o.op = .build t parts) (hv : buildA P t (parts.map fun (i, x) => (i, a.eval x)) = some v) : Done P G w0 ac o c w v S := by
  obtain ⟨hpl, hpv⟩ := parts_rel h parts (fun p hp => by simp only [ho, Op.operands]; simp; exact ⟨p.1, hp⟩)
  unfold buildA at hv
  have zr : ∀ z : Value, af 8 z = true → z.cells.size = z.cells.size ∧ ∀ (i : Nat) (x y : Value), z.cells[i]? = some x → z.cells[i]? = some y → VR c x y := fun z hz => (af_refl c 8 z hz).cells
  split at hv
  · rename_i i fs hi hu
    split at hv
    · rename_i z hz
      split at hv
      · rename_i haf
        split at hv
        · rename_i places hpp
          rw [Option.map_eq_some_iff] at hv
          obtain ⟨out, hout, rfl⟩ := hv
          obtain ⟨out', hout', hs, hh⟩ := fill_rel (places[·]?) _ _ _ _ _ hpl hpv (zr z haf).1 (zr z haf).2 hout
          refine done_value (s := Instr.build t (parts.map fun (i, x) => (i, ac.eval x))) (u := .agg out') (by simp only [execOp, ho]) ?_ (Ctx.le.refl _) h.rel (.agg _ _ hs hh)
          simp only [Instr.build, zeroValue, typeInfo, program, hi, hz, Sem.run_bind, Sem.run, Result.andThen_ok, Sem.run_pure, run_underlying hu, run_places hpp, hout']
        · cases hv
      · cases hv
    · cases hv
  · rename_i i e n hi hu
    split at hv
    · rename_i z j hz hj
      split at hv
      · rename_i haf
        rw [Option.map_eq_some_iff] at hv
        obtain ⟨out, hout, rfl⟩ := hv
        obtain ⟨out', hout', hs, hh⟩ := fill_rel (fun i => some (i * j.size, j.size)) _ _ _ _ _ hpl hpv (zr z haf).1 (zr z haf).2 hout
        refine done_value (s := Instr.build t (parts.map fun (i, x) => (i, ac.eval x))) (u := .agg out') (by simp only [execOp, ho]) ?_ (Ctx.le.refl _) h.rel (.agg _ _ hs hh)
        simp only [Instr.build, zeroValue, typeInfo, program, hi, hz, Sem.run_bind, Sem.run, Result.andThen_ok, Sem.run_pure, run_underlying hu, run_sizeOf hj, hout']
      · cases hv
    · cases hv
  · cases hv

theorem made_get (z : Array Value) (n i : Nat) (h : i < n) : (madeCells z n)[i]? = some (z[i % z.size]!) := by
  simp [madeCells, h]

def zeroOK (z : Value) : Bool := af 8 z && z.cells.toList.all (af 8) && z.cells.toList.all one && decide (0 < z.cells.size)

theorem made_rel (c : Ctx) {z : Value} (h : zeroOK z = true) (n m i : Nat) (x y : Value) (hx : (madeCells z.cells n).toList[i]? = some x) (hy : (madeCells z.cells m)[i]? = some y) : VR c x y := by
  simp only [Array.getElem?_toList] at hx
  have h1 : i < n := by have := (Array.getElem?_eq_some_iff.1 hx).1; simpa [size_madeCells] using this
  have h2 : i < m := by have := (Array.getElem?_eq_some_iff.1 hy).1; simpa [size_madeCells] using this
  rw [made_get _ _ _ h1] at hx
  rw [made_get _ _ _ h2] at hy
  rw [hx] at hy
  cases hy
  cases hx
  simp only [zeroOK, Bool.and_eq_true, decide_eq_true_eq] at h
  have hlt : i % z.cells.size < z.cells.size := Nat.mod_lt _ h.2
  refine af_refl c 8 _ (all_get h.1.1.2 (i := i % z.cells.size) ?_)
  rw [getElem!_pos z.cells (i % z.cells.size) hlt]
  exact Array.getElem?_eq_getElem hlt

/-- make([]T, l, m), known sizes. -/
def makeA (P : Program) (S : St) (t : TypeId) (l m : Int) : Option (Value × St) :=
  match P.underlying t with
  | some (.slice e) => match P.info? e with
    | some i => match i.zero with
      | some z =>
        if zeroOK z = true ∧ z.cells.size = i.size ∧ 0 ≤ l ∧ l ≤ m ∧ (i.bytes : Int) * m ≤ 281474976710656 ∧ m ≤ 9223372036854775807 then
          match S.alloc i.size (madeCells z.cells (l.toNat * i.size)).toList with
          | some (b, S') => some (.slice (some ⟨b, 0, none⟩) l.toNat (m.toNat + 1), S')
          | none => none
        else none
      | none => none
    | none => none
  | _ => none

theorem make_done (h : Pre G w0 c g S w a ac o) (t : TypeId) (x y : Operand) (ho : o.op = .makeSlice t x y) (kl km : IntKind) (l m : Int) (hx : a.eval x = .int kl l) (hy : a.eval y = .int km m) (hv : makeA P S t l m = some (v, S')) : Done P G w0 ac o c w v S' := by
  have hcx := h.ev (x := x) (by simp [ho, Op.operands])
  have hcy := h.ev (x := y) (by simp [ho, Op.operands])
  rw [hx] at hcx
  rw [hy] at hcy
  unfold makeA at hv
  split at hv
  · rename_i e hu
    split at hv
    · rename_i i hi
      split at hv
      · rename_i z hz
        split at hv
        · rename_i hcnd
          obtain ⟨hzo, hzs, h0, hlm, hby, h63⟩ := hcnd
          split at hv
          · rename_i b S1 hs
            cases hv
            have hr := run_make (P := P) w t e i z hu hi hz kl km l m h0 hlm hby h63
            have hle2 : l.toNat * i.size ≤ m.toNat * i.size := Nat.mul_le_mul_right _ (by omega)
            obtain ⟨rfl, c', g', hle, hn, hloc, hes, hcz, hR'⟩ := h.rel.alloc hs (cur := madeCells z.cells (m.toNat * i.size)) (e := e) (by simp only [Array.length_toList, size_madeCells]; exact hle2) (fun j x y hx hy => made_rel c hzo _ _ j x y hx hy)
            have hcapb : (c'.loc c.n).2 + 0 + m.toNat * c'.es c.n ≤ c'.cz (c'.loc c.n).1 := by
              rw [hloc, hes]
              simp only
              rw [hcz, size_madeCells]
              omega
            have hvr := VR.slice (c := c') c.n 0 l.toNat (m.toNat + 1) m.toNat (by omega) (by omega) (.inr rfl) hcapb
            rw [hloc] at hvr
            refine done_value (s := Instr.makeSlice t (ac.eval x) (ac.eval y)) (by simp only [execOp, ho]) ?_ hle hR' hvr
            rw [hcx.int_inv, hcy.int_inv]
            exact hr
          · cases hv
        · cases hv
      · cases hv
    · cases hv
  · cases hv

/-- []T{..}. -/
def litA (P : Program) (S : St) (t : TypeId) (len : Nat) (parts : Array (Nat × Value)) : Option (Value × St) :=
  match P.underlying t with
  | some (.slice e) => match P.info? e with
    | some i => match i.zero with
      | some z =>
        if zeroOK z = true ∧ z.cells.size = i.size ∧ len * i.size ≤ 16777216 ∧ len * i.size ≠ 0 then
          match Instr.fill (fun j => some (j * i.size, i.size)) (madeCells z.cells (len * i.size)) parts.toList with
          | some cells => match S.alloc i.size cells.toList with
            | some (b, S') => if cells.size = len * i.size then some (.slice (some ⟨b, 0, none⟩) len (len + 1), S') else none
            | none => none
          | none => none
        else none
      | none => none
    | none => none
  | _ => none

theorem lit_done (h : Pre G w0 c g S w a ac o) (t : TypeId) (len : Nat) (parts : Array (Nat × Operand)) (ho : o.op = .buildSlice t len parts) (hv : litA P S t len (parts.map fun (i, x) => (i, a.eval x)) = some (v, S')) : Done P G w0 ac o c w v S' := by
  obtain ⟨hpl, hpv⟩ := parts_rel h parts (fun p hp => by simp only [ho, Op.operands]; simp; exact ⟨p.1, hp⟩)
  unfold litA at hv
  split at hv
  · rename_i e hu
    split at hv
    · rename_i i hi
      split at hv
      · rename_i z hz
        split at hv
        · rename_i hcnd
          obtain ⟨hzo, hzs, hmax, hne⟩ := hcnd
          split at hv
          · rename_i out hout
            split at hv
            · rename_i b S1 hs
              split at hv
              · rename_i hsz
                cases hv
                obtain ⟨out', hout', hs2, hh⟩ := fill_rel (c := c) _ _ _ _ (madeCells z.cells (len * i.size)) _ hpl hpv rfl (fun j x y hx hy => made_rel c hzo _ _ j x y (by simpa using hx) hy) hout
                obtain ⟨rfl, c', g', hle, hn, hloc, hes, hcz, hR'⟩ := h.rel.alloc hs (cur := out') (e := e) (by simp only [Array.length_toList]; omega) (fun j x y hx hy => hh j x y (by simpa using hx) hy)
                have hcapb : (c'.loc c.n).2 + 0 + len * c'.es c.n ≤ c'.cz (c'.loc c.n).1 := by
                  rw [hloc, hes]
                  simp only
                  rw [hcz]
                  omega
                have hvr := VR.slice (c := c') c.n 0 len (len + 1) len (by omega) (Nat.le_refl _) (.inr rfl) hcapb
                rw [hloc] at hvr
                refine done_value (s := Instr.buildSlice t len (parts.map fun (i, x) => (i, ac.eval x))) (by simp only [execOp, ho]) ?_ hle hR' hvr
                have hmc : (Array.range (len * i.size)).map (z.cells[· % z.cells.size]!) = madeCells z.cells (len * i.size) := rfl
                have hle24 : ¬ (len * i.size > 2 ^ 24) := by omega
                simp only [Instr.buildSlice, Sem.run_bind, run_underlying hu, Result.andThen_ok, run_sizeOf hi, if_neg hle24, if_neg hne, Sem.run_pure, zeroValue, typeInfo, program, Sem.run, hi, hz, hmc, hout', newRow, newObj]
                rfl
              · cases hv
            · cases hv
          · cases hv
        · cases hv
      · cases hv
    · cases hv
  · cases hv


def bound (v : Option Value) (d : Nat) : Option Nat :=
  match v with
  | none => some d
  | some (.int _ n) => if 0 ≤ n then some n.toNat else none
  | _ => none

/-- x[l:h:m] of a slice: nothing beyond its length. -/
def sliceA (P : Program) (S : St) (t : TypeId) (x : Value) (lo hi mx : Option Value) : Option Value :=
  match P.underlying t, x with
  | some (.slice e), .slice (some ⟨b, off, none⟩) n k =>
    match P.info? e, S.blks.get b, bound lo 0, bound hi n, bound mx n with
    | some i, some kb, some l, some h, some m =>
      if kb.sz = i.size ∧ l ≤ h ∧ h ≤ m ∧ m ≤ n ∧ (mx.isSome = true → hi.isSome = true) then some (.slice (some ⟨b, off + l * i.size, none⟩) (h - l) (if mx.isSome = true then m - l + 1 else if k = 0 then 0 else k - l)) else none
    | _, _, _, _, _ => none
  | some (.slice e), .slice none 0 0 =>
    match P.info? e, bound lo 0, bound hi 0, bound mx 0 with
    | some _, some 0, some 0, some 0 => if mx.isSome = true → hi.isSome = true then some x else none
    | _, _, _, _ => none
  | _, _ => none

theorem bound_run {v : Option Value} {d n y : Nat} (h : bound v d = some n) (hy : n ≤ y) (code : BoundsCode) (w : World) : ∀ x, v = some x → (Instr.sliceBound x y code).run P w = .ok n w := by
  intro x e
  subst e
  unfold bound at h
  split at h
  · rename_i h2; cases h2
  · rename_i k i h2
    cases h2
    split at h
    · rename_i h0
      cases h
      simp [Instr.sliceBound, asIntOf, h0, show i ≤ (y : Int) by omega]
    · cases h
  · cases h

theorem bounds_run {lo hi mx : Option Value} {n cap l h m : Nat} (hl : bound lo 0 = some l) (hh : bound hi n = some h) (hm : bound mx n = some m) (h1 : l ≤ h) (h2 : h ≤ m) (h3 : m ≤ n) (h4 : n ≤ cap) (hf : mx.isSome = true → hi.isSome = true) (w : World) :
    (Instr.sliceBounds true n cap lo hi mx).run P w = .ok (l, h, if mx.isSome = true then m else cap) w := by
  unfold Instr.sliceBounds
  cases mx with
  | none =>
    cases hi with
    | none =>
      have eh : h = n := by simp [bound] at hh; exact hh.symm
      cases lo with
      | none => have el : l = 0 := by simp [bound] at hl; exact hl.symm
                subst el; subst eh; simp
      | some x => simp [bound_run (P := P) hl (show l ≤ n by omega) _ w x rfl, eh]
    | some y =>
      cases lo with
      | none => have el : l = 0 := by simp [bound] at hl; exact hl.symm
                subst el; simp [bound_run (P := P) hh (show h ≤ cap by omega) _ w y rfl]
      | some x => simp [bound_run (P := P) hl h1 _ w x rfl, bound_run (P := P) hh (show h ≤ cap by omega) _ w y rfl]
  | some z =>
    cases hi with
    | none => simp at hf
    | some y =>
      cases lo with
      | none => have el : l = 0 := by simp [bound] at hl; exact hl.symm
                subst el; simp [bound_run (P := P) hm (show m ≤ cap by omega) _ w z rfl, bound_run (P := P) hh h2 _ w y rfl]
      | some x => simp [bound_run (P := P) hm (show m ≤ cap by omega) _ w z rfl, bound_run (P := P) hl h1 _ w x rfl, bound_run (P := P) hh h2 _ w y rfl]

theorem VR.int_or (c : Ctx) {x y : Value} (h : VR c x y) (k : IntKind) (n : Int) (e : x = .int k n) : y = .int k n := by subst e; exact h.int_inv

/-- Bounds of both sides are the same. -/
theorem bound_rel {c : Ctx} {x : Option Operand} {a ac : Act} (h : ∀ y, x = some y → VR c (a.eval y) (ac.eval y)) {d n : Nat} (hb : bound (x.map a.eval) d = some n) : x.map ac.eval = x.map a.eval := by
  cases x with
  | none => rfl
  | some y =>
    have hv := h y rfl
    simp only [Option.map_some, bound] at hb
    simp only [Option.map_some, Option.some.injEq]
    split at hb
    · rename_i e; cases e
    · rename_i k i e
      simp only [Option.some.injEq] at e
      rw [e] at hv ⊢
      exact hv.int_inv
    · cases hb

theorem slice_done (h : Pre G w0 c g S w a ac o) (t : TypeId) (x : Operand) (lo hi mx : Option Operand) (ho : o.op = .slice t x lo hi mx) (hv : sliceA P S t (a.eval x) (lo.map a.eval) (hi.map a.eval) (mx.map a.eval) = some v) : Done P G w0 ac o c w v S := by
  have hc := h.ev (x := x) (by simp [ho, Op.operands])
  have hlo : ∀ y, lo = some y → VR c (a.eval y) (ac.eval y) := fun y e => h.ev (by simp [ho, Op.operands, e])
  have hhi : ∀ y, hi = some y → VR c (a.eval y) (ac.eval y) := fun y e => h.ev (by simp [ho, Op.operands, e])
  have hmx : ∀ y, mx = some y → VR c (a.eval y) (ac.eval y) := fun y e => h.ev (by simp [ho, Op.operands, e])
  unfold sliceA at hv
  split at hv
  · rename_i e b off n k hu hx
    split at hv
    · rename_i i kb l h' m hi' hkb hbl hbh hbm
      split at hv
      · rename_i hcnd
        obtain ⟨hsz, h1, h2, h3, hf⟩ := hcnd
        cases hv
        rw [hx] at hc
        obtain ⟨f, cur, e', fr, ok⟩ := h.rel.blk b kb hkb
        have hes : c.es b = i.size := ok.es.trans hsz
        generalize hux : ac.eval x = ux at hc
        generalize hfix : (mx.map a.eval).isSome = fixed at hf
        have hfix2 : (mx.map a.eval).isSome = true → (hi.map a.eval).isSome = true := fun e => hf (by rw [← hfix]; exact e)
        cases hc with
        | slice _ _ _ _ cap hbn hn hk hcap =>
          have hb := bounds_run (P := P) (cap := cap) hbl hbh hbm h1 h2 h3 hn hfix2 w
          rw [hfix] at hb
          rw [hes] at hcap
          have hrun : (Instr.sliceAt t (ac.eval x) (lo.map ac.eval) (hi.map ac.eval) (mx.map ac.eval)).run P w =
              .ok (.slice (if (if fixed = true then m else cap) = l then some ⟨(c.loc b).1, (c.loc b).2 + off, none⟩ else some ⟨(c.loc b).1, (c.loc b).2 + off + l * i.size, none⟩) (h' - l) ((if fixed = true then m else cap) - l)) w := by
            rw [bound_rel hlo hbl, bound_rel hhi hbh, bound_rel hmx hbm, hux]
            simp only [Instr.sliceAt, Sem.run_bind, run_underlying hu, Result.andThen_ok, Instr.slice, hb, run_sizeOf hi', Sem.run_pure, Option.map_some, Addr.add_lit]
          generalize hM : (if fixed = true then m else cap) = M at hrun
          have hMc : M ≤ cap := by rw [← hM]; split <;> omega
          have hMh : h' ≤ M := by rw [← hM]; split <;> omega
          by_cases hMl : M = l
          · rw [if_pos hMl] at hrun
            have e1 : h' - l = 0 := by omega
            have e2 : M - l = 0 := by omega
            rw [e1, e2] at hrun
            rw [e1]
            refine done_value (by simp only [execOp, ho]) hrun (Ctx.le.refl _) h.rel (.empty b _ _ _ hbn ?_)
            split
            · rename_i ef; rw [if_pos ef] at hM; right; omega
            · rename_i ef
              rw [if_neg ef] at hM
              rcases hk with hk | hk
              · left; rw [if_pos hk]
              · right; rw [if_neg (by omega)]; omega
          · rw [if_neg hMl] at hrun
            have hmul : l * i.size + (M - l) * i.size = M * i.size := by rw [← Nat.add_mul]; congr 1; omega
            have hmul2 : M * i.size ≤ cap * i.size := Nat.mul_le_mul_right _ hMc
            have hvr := VR.slice (c := c) b (off + l * i.size) (h' - l) (if fixed = true then m - l + 1 else if k = 0 then 0 else k - l) (M - l) hbn (by omega) (by
              split
              · rename_i ef; rw [if_pos ef] at hM; right; omega
              · rename_i ef
                rw [if_neg ef] at hM
                rcases hk with hk | hk
                · left; rw [if_pos hk]
                · right; rw [if_neg (by omega)]; omega) (by rw [hes]; omega)
            rw [← Nat.add_assoc] at hvr
            exact done_value (by simp only [execOp, ho]) hrun (Ctx.le.refl _) h.rel hvr
        | empty _ _ _ ad hbn hk =>
          have hb := bounds_run (P := P) (cap := 0) hbl hbh hbm h1 h2 h3 (Nat.le_refl _) hfix2 w
          rw [hfix] at hb
          have el : l = 0 := by omega
          have eh : h' = 0 := by omega
          have em : m = 0 := by omega
          subst el; subst eh; subst em
          have e0 : (if fixed = true then 0 else 0) = 0 := by split <;> rfl
          rw [e0] at hb
          refine done_value (s := Instr.sliceAt t (ac.eval x) (lo.map ac.eval) (hi.map ac.eval) (mx.map ac.eval)) (u := .slice (some ad) 0 0) (by simp only [execOp, ho]) ?_ (Ctx.le.refl _) h.rel (.empty b _ _ _ hbn ?_)
          · rw [bound_rel hlo hbl, bound_rel hhi hbh, bound_rel hmx hbm, hux]
            simp [Instr.sliceAt, run_underlying hu, Instr.slice, hb, run_sizeOf hi']
          · split
            · right; rfl
            · split
              · left; rfl
              · omega
      · cases hv
    · cases hv
  · rename_i e hu hx
    split at hv
    · rename_i i hi' hbl hbh hbm
      split at hv
      · rename_i hfix2
        cases hv
        rw [hx] at hc
        generalize hux : ac.eval x = ux at hc
        cases hc with
        | slice0 =>
          have hb := bounds_run (P := P) (cap := 0) hbl hbh hbm (Nat.le_refl _) (Nat.le_refl _) (Nat.le_refl _) (Nat.le_refl _) hfix2 w
          rw [ite_self] at hb
          refine done_value (s := Instr.sliceAt t (ac.eval x) (lo.map ac.eval) (hi.map ac.eval) (mx.map ac.eval)) (u := .slice none 0 0) (by simp only [execOp, ho]) ?_ (Ctx.le.refl _) h.rel (by rw [hx]; exact .slice0)
          rw [bound_rel hlo hbl, bound_rel hhi hbh, bound_rel hmx hbm, hux]
          simp [Instr.sliceAt, run_underlying hu, Instr.slice, hb, run_sizeOf hi']
      · cases hv
    · cases hv
  · cases hv

end Go.Am
