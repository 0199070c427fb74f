/- A function's code and a call, evaluated over the abstract memory; and that the model does the same. Conditions: as each theorem lists them. -/
import Derived.Test.YtninmfobgjkekaaAmH
set_option linter.unusedSimpArgs false
set_option linter.unusedVariables false
namespace Go.Am
open Go Go.RowKit

variable {P : Program} {G : Nat} {w0 w : World} {c : Ctx} {g : Gh} {S S' : St} {a a' ac : Act} {o : Oper} {v : Value}

abbrev CallF := FuncId → Array Value → St → Option (Value × St)

/-- Which function an operation calls, with which arguments. -/
def callOf (a : Act) (o : Oper) : Option (FuncId × Array Value) :=
  match o.op with
  | .call k => match k.callee with
    | .value x => match a.eval x with
      | .func (.func f) first cap => some (f, first ++ k.args.map a.eval ++ cap)
      | _ => none
    | _ => none
  | _ => none

def callable (P : Program) (f : FuncId) : Bool :=
  match P.funcs[f]? with
  | some fn => !(fn.name == "runtime.NumGoroutine") && fn.body.isSome
  | none => false

def evOps (P : Program) (G : Nat) (call : CallF) (ops : Array Oper) : List Oper → Act → St → Option (Act × St)
  | [], a, S => some (a, S)
  | o :: rest, a, S =>
    if Region.wanted o (yielded ops a.tmps) = true then
      if o.op.operands.toList.all (okOpnd G) = true then
        match callOf a o with
        | some (f, args) => if callable P f = true then match call f args S with
            | some (v, S') => evOps P G call ops rest (a.put o.dst v) S'
            | none => none
          else none
        | none => match evOp P a o S with
          | some (v, S') => evOps P G call ops rest (a.put o.dst v) S'
          | none => none
      else none
    else evOps P G call ops rest (a.put o.dst undef) S

inductive AEx where
  | normal
  | exit (id : Nat)
  | ret

def AEx.out : AEx → Exit
  | .normal => .normal
  | .exit id => .exit id
  | .ret => .ret

abbrev CodeF := Code → Act → St → Option (AEx × Act × St)

def resA (P : Program) (S : St) (tmps : Array Value) : ResultVar → Option Value
  | .tmp t => some (tmps.getD t undef)
  | .cell b t => match tmps.getD b undef with
    | .pointer (some ⟨b, off, none⟩) => ldA P S t b off
    | _ => none

def resultsA (P : Program) (S : St) (fn : Func) (tmps : Array Value) : Option Value :=
  match fn.results.toList.mapM (m := Option) (resA P S tmps) with
  | some [v] => some v
  | some vs => some (.tuple vs.toArray)
  | none => none

def runFn (P : Program) (ev : CodeF) : CallF := fun f args S =>
  match P.funcs[f]? with
  | some fn => match fn.body with
    | some k => match ev k { tmps := args ++ Array.replicate (fn.ntmps - args.size) undef, defers := [] } S with
      | some (.normal, a, S') | some (.ret, a, S') => (resultsA P S' fn a.tmps).map fun v => (v, S')
      | _ => none
    | none => none
  | none => none

def loopN (ev : Act → St → Option (AEx × Act × St)) : Nat → Act → St → Option (AEx × Act × St)
  | 0, _, _ => none
  | n + 1, a, S => match ev a S with
    | some (.normal, a', S') => loopN ev n a' S'
    | r => r

/-- What an operation gives that hangs on nothing, or on what is held alone. -/
def stillH (P : Program) (H : List Hold) (a : Act) (o : Oper) (S : St) : Option Value :=
  match evStill P a o S with
  | some v => some v
  | none => match loadOf a o with
    | some (t, b, i) => findH H t b i
    | none => none

/-- The first of the operations that may come next whose outcome hangs on nothing but what is held, and what it gives. -/
def firstStill (P : Program) (G : Nat) (H : List Hold) (ops : Array Oper) (listed : Array Bool) (a : Act) (S : St) : List Nat → Option (Nat × Oper × Value)
  | [] => none
  | j :: rest => match ops[j]? with
    | some o =>
      if Region.wanted o (yielded ops a.tmps) = true then
        match stillH P H a o S with
        | some v => if o.op.operands.toList.all (okOpnd G) = true ∧ Region.free .any ops listed j = true then some (j, o, v) else firstStill P G H ops listed a S rest
        | none => firstStill P G H ops listed a S rest
      else if Region.free .any ops listed j = true then some (j, o, undef) else firstStill P G H ops listed a S rest
    | none => none

/-- One way of a region that draws its order, on its way: what is listed, the frame, the memory; and which numbers of blocks and of families each operation took (operation, first block, blocks, first family, families). -/
structure Ent where
  listed : Array Bool
  a : Act
  S : St
  log : List (Nat × Nat × Nat × Nat × Nat)

def pairs : List (Nat × Nat) → Nat → Nat → Nat → List (Nat × Nat)
  | l, _, _, 0 => l
  | l, x, y, n + 1 => (x, y) :: pairs l (x + 1) (y + 1) n

def logAt (i : Nat) : List (Nat × Nat × Nat × Nat × Nat) → Option (Nat × Nat)
  | [] => none
  | (j, b, _, f, _) :: rest => if i = j then some (b, f) else logAt i rest

/-- The pairs of the second way's numbers and the first's: of blocks; and of families, the first's first. -/
def renOf (l : List (Nat × Nat × Nat × Nat × Nat)) : List (Nat × Nat × Nat × Nat × Nat) → List (Nat × Nat) × List (Nat × Nat)
  | [] => ([], [])
  | (i, b', n, f', m) :: rest =>
    let (x, y) := renOf l rest
    match logAt i l with
    | some (b, f) => (pairs x b' b n, pairs y f f' m)
    | none => (x, y)

/-- Is the first way the second but for numbers? -/
def joins (nb nf : Nat) (e e' : Ent) : Bool :=
  match renOf e.log e'.log with
  | (x, y) => decide (e.listed.toList = e'.listed.toList) && (isoS ⟨nb, x⟩ ⟨nf, y⟩ e.S e'.S && isoA ⟨nb, x⟩ e.S.nb e.a e'.a)

def insertE (nb nf : Nat) (e : Ent) : List Ent → List Ent
  | [] => [e]
  | e' :: rest => if joins nb nf e e' = true then e' :: rest else e' :: insertE nb nf e rest

/-- One operation as the next of a way. -/
def evNext (P : Program) (G : Nat) (call : CallF) (H : List Hold) (ops : Array Oper) (e : Ent) (i : Nat) : Option Ent :=
  match ops[i]? with
  | some o => match evOps P G call ops [o] e.a e.S with
    | some (a', S') => if holds P S' H = true then some ⟨e.listed.setIfInBounds i true, a', S', (i, e.S.nb, S'.nb - e.S.nb, e.S.nf, S'.nf - e.S.nf) :: e.log⟩ else none
    | none => none
  | none => none

/-- What may come next of one way: what hangs on nothing first; else each that may. -/
def evSucc (P : Program) (G : Nat) (call : CallF) (H : List Hold) (ops : Array Oper) (e : Ent) : Option (List Ent) :=
  match Region.ready .any ops e.listed with
  | [] => none
  | i :: rest => match firstStill P G H ops e.listed e.a e.S (i :: rest) with
    | some (j, o, v) => if (i :: rest).contains j = true then some [⟨e.listed.setIfInBounds j true, e.a.put o.dst v, e.S, e.log⟩] else none
    | none => (i :: rest).mapM (evNext P G call H ops e)

def evSuccs (P : Program) (G : Nat) (call : CallF) (H : List Hold) (ops : Array Oper) (nb nf : Nat) : List Ent → Option (List Ent)
  | [] => some []
  | e :: rest => match evSucc P G call H ops e, evSuccs P G call H ops nb nf rest with
    | some l, some l' => some (l.foldr (insertE nb nf) l')
    | _, _ => none

/-- All ways side by side, step by step; those that are the same but for numbers are one. -/
def evWays (P : Program) (G : Nat) (call : CallF) (H : List Hold) (ops : Array Oper) (nb nf : Nat) : Nat → List Ent → Option (Act × St)
  | 0, es => match es with
    | [e] => match Region.ready .any ops e.listed with
      | [] => some (e.a, e.S)
      | _ :: _ => none
    | _ => none
  | n + 1, es => match evSuccs P G call H ops nb nf es with
    | some es' => evWays P G call H ops nb nf n es'
    | none => none

/-- The first of the operations that may come next that hangs on nothing, or reads alone; what it gives; what is held. -/
def firstA (P : Program) (G : Nat) (ops : Array Oper) (H : List Hold) (listed : Array Bool) (a : Act) (S : St) : List Nat → Option (Nat × Oper × Value × List Hold)
  | [] => none
  | j :: rest => match ops[j]? with
    | some o =>
      if Region.free .any ops listed j = true then
        if Region.wanted o (yielded ops a.tmps) = true then
          if o.op.operands.toList.all (okOpnd G) = true then
            match evStill P a o S with
            | some v => some (j, o, v, H)
            | none => match loadOf a o with
              | some (t, b, i) => match ldA P S t b i with
                | some v => if b < S.nb ∧ det S.nb 6 v = true then some (j, o, v, (t, b, i, v) :: H) else firstA P G ops H listed a S rest
                | none => firstA P G ops H listed a S rest
              | none => firstA P G ops H listed a S rest
          else firstA P G ops H listed a S rest
        else some (j, o, undef, H)
      else firstA P G ops H listed a S rest
    | none => none

/-- A region's beginning: what hangs on nothing, or reads alone; how many steps are left; what is held. -/
def evA (P : Program) (G : Nat) (ops : Array Oper) (S : St) : Nat → Array Bool → Act → List Hold → Nat × Array Bool × Act × List Hold
  | 0, listed, a, H => (0, listed, a, H)
  | n + 1, listed, a, H => match Region.ready .any ops listed with
    | [] => (n + 1, listed, a, H)
    | i :: rest => match firstA P G ops H listed a S (i :: rest) with
      | some (j, o, v, H') => if (i :: rest).contains j = true then evA P G ops S n (listed.setIfInBounds j true) (a.put o.dst v) H' else (n + 1, listed, a, H)
      | none => (n + 1, listed, a, H)

/-- A region that draws its order. -/
def evDraw (P : Program) (G : Nat) (call : CallF) (ops : Array Oper) (n : Nat) (listed : Array Bool) (a : Act) (S : St) : Option (Act × St) :=
  match evA P G ops S n listed a [] with
  | (m, listed', a1, H) => match evWays P G call H ops S.nb S.nf m [⟨listed', a1, S, []⟩] with
    | some r => some r
    | none => evWays P G call [] ops S.nb S.nf n [⟨listed, a, S, []⟩]

def evC (P : Program) (G : Nat) : Nat → CodeF
  | 0, _, _, _ => none
  | n + 1, k, a, S => match k with
    | .skip | .label _ => some (.normal, a, S)
    | .region _ ops draw => if draw = true then
        if P.follows .mixedOrders = true ∧ Region.noSelect ops = true then match evDraw P G (runFn P (evC P G n)) ops ops.size (Array.replicate ops.size false) a S with
          | some (a', S') => some (.normal, a', S')
          | none => none
        else none
      else match evOps P G (runFn P (evC P G n)) ops ops.toList a S with
        | some (a', S') => some (.normal, a', S')
        | none => none
    | .seq x y => match evC P G n x a S with
      | some (.normal, a', S') => evC P G n y a' S'
      | r => r
    | .cond x k1 k2 => if okOpnd G x = true then match a.eval x with
        | .bool b => evC P G n (cond b k1 k2) a S
        | _ => none
      else none
    | .block id b => match evC P G n b a S with
      | some (.exit j, a', S') => if j = id then some (.normal, a', S') else some (.exit j, a', S')
      | r => r
    | .loop b => loopN (evC P G n b) n a S
    | .exit id => some (.exit id, a, S)
    | .ret => some (.ret, a, S)
    | _ => none

def evCall (P : Program) (G : Nat) (n : Nat) : CallF := runFn P (evC P G n)

/-- What a sound evaluation of calls means. -/
def CallOK (P : Program) (G : Nat) (w0 : World) (call : CallF) : Prop :=
  ∀ (f : FuncId) (args : Array Value) (S : St) (v : Value) (S' : St), call f args S = some (v, S') → ∀ (c : Ctx) (g : Gh) (w : World) (args' : Array Value), Rel G w0 c g S w → args.size = args'.size →
    (∀ (i : Nat) (x y : Value), args[i]? = some x → args'[i]? = some y → VR c x y) →
    Calls P f args' w fun e w' => ∃ u c' g', e = .returned u ∧ c.le c' ∧ Rel G w0 c' g' S' w' ∧ VR c' v u

def CodeOK (P : Program) (G : Nat) (w0 : World) (ev : CodeF) : Prop :=
  ∀ (k : Code) (a : Act) (S : St) (e : AEx) (a' : Act) (S' : St), ev k a S = some (e, a', S') → ∀ (c : Ctx) (g : Gh) (w : World) (ac : Act), Rel G w0 c g S w → ActR c a ac →
    k.wp P (fun e' ac' w' => e' = e.out ∧ ∃ c' g', c.le c' ∧ Rel G w0 c' g' S' w' ∧ ActR c' a' ac') ac w

theorem yielded_rel (h : ActR c a ac) (ops : Array Oper) : yielded ops ac.tmps = yielded ops a.tmps := by
  funext j
  unfold yielded
  cases hd : (ops[j]?).bind (·.dst) with
  | none => rfl
  | some d =>
    simp only [Option.bind_some]
    by_cases hlt : d < a.tmps.size
    · have h2 : d < ac.tmps.size := h.size ▸ hlt
      rw [Array.getElem?_eq_getElem hlt, Array.getElem?_eq_getElem h2]
      have hv := h.get d _ _ (Array.getElem?_eq_getElem hlt) (Array.getElem?_eq_getElem h2)
      generalize a.tmps[d] = x at hv
      generalize ac.tmps[d] = y at hv
      cases hv <;> rfl
    · have h2 : ¬ d < ac.tmps.size := h.size ▸ hlt
      rw [Array.getElem?_eq_none (Nat.le_of_not_lt h2), Array.getElem?_eq_none (Nat.le_of_not_lt hlt)]

theorem callOf_run (h : Pre G w0 c g S w a ac o) {f : FuncId} {args : Array Value} (hc : callOf a o = some (f, args)) (hf : callable P f = true) :
    ∃ args', (execOp ac.eval o).run P w = .ok (.enter f args') w ∧ args.size = args'.size ∧ ∀ (i : Nat) (x y : Value), args[i]? = some x → args'[i]? = some y → VR c x y := by
  unfold callOf at hc
  split at hc
  · rename_i k ho
    split at hc
    · rename_i x hk
      split at hc
      · rename_i f' first cap hx
        cases hc
        have hv := h.ev (x := x) (by simp [ho, Op.operands, Call.operands, hk])
        rw [hx] at hv
        generalize hu : ac.eval x = u at hv
        cases hv with
        | func _ _ first' _ cap' hl hh hl' hh' =>
          refine ⟨first' ++ k.args.map ac.eval ++ cap', ?_, by simp [hl, hl'], fun i x y hx hy => ?_⟩
          · unfold callable at hf
            split at hf
            · rename_i fn hfn
              simp only [Bool.and_eq_true, Bool.not_eq_true', beq_eq_false_iff_ne, ne_eq] at hf
              simp only [execOp, ho, resolve, hk, hu, Deferred.ofValue, invoke, callFunc, Sem.run_bind, Sem.run_pure, Result.andThen_ok, program, Sem.run, hfn]
              rw [if_neg (by simpa using hf.1)]
              cases hb : fn.body with
              | none => simp [hb] at hf
              | some b => simp
            · cases hf
          · rw [Array.getElem?_append] at hx hy
            simp only [Array.size_append, Array.size_map, hl] at hx hy
            split at hx
            · rename_i h1
              rw [if_pos h1] at hy
              rw [Array.getElem?_append] at hx hy
              rw [hl] at hx
              split at hx
              · rename_i h2; rw [if_pos h2] at hy; exact hh _ _ _ hx hy
              · rename_i h2
                rw [if_neg h2] at hy
                rw [Array.getElem?_map, Option.map_eq_some_iff] at hx hy
                obtain ⟨p, hp, rfl⟩ := hx
                obtain ⟨q, hq, rfl⟩ := hy
                rw [hp] at hq
                cases hq
                have hm : p ∈ k.args := Array.mem_of_getElem? hp
                exact h.ev (by simp [ho, Op.operands, Call.operands, hm])
            · rename_i h1
              rw [if_neg h1] at hy
              exact hh' _ _ _ hx hy
      · cases hc
    · cases hc
  · cases hc

theorem evOps_ok {call : CallF} (hcall : CallOK P G w0 call) (ops : Array Oper) : ∀ (l : List Oper) (a : Act) (S : St) (a' : Act) (S' : St), evOps P G call ops l a S = some (a', S') →
    ∀ (c : Ctx) (g : Gh) (w : World) (ac : Act) (Q : Exit → Act → World → Prop), Rel G w0 c g S w → ActR c a ac →
      (∀ c' g' ac' w', c.le c' → Rel G w0 c' g' S' w' → ActR c' a' ac' → Q .normal ac' w') → wpList P ops Q l ac w := by
  intro l
  induction l with
  | nil =>
    intro a S a' S' h c g w ac Q hR hA hQ
    simp only [evOps, Option.some.injEq, Prod.mk.injEq] at h
    obtain ⟨rfl, rfl⟩ := h
    exact hQ c g ac w (Ctx.le.refl _) hR hA
  | cons o rest ih =>
    intro a S a' S' h c g w ac Q hR hA hQ
    unfold evOps at h
    unfold wpList
    rw [yielded_rel hA]
    split at h
    · rename_i hw
      rw [if_pos hw]
      split at h
      · rename_i hop
        have hpre : Pre G w0 c g S w a ac o := ⟨hR, hA, hop⟩
        refine .inl ?_
        split at h
        · rename_i f args hco
          split at h
          · rename_i hf
            split at h
            · rename_i v S1 hcl
              obtain ⟨args', hrun, hsz, hvr⟩ := callOf_run (P := P) hpre hco hf
              unfold Oper.wp
              rw [hrun, Oper.upon_enter]
              refine (hcall f args S v S1 hcl c g w args' hR hsz hvr).mono ?_
              rintro e w' ⟨u, c', g', rfl, hle, hR', hv'⟩
              exact ih (a.put o.dst v) S1 a' S' h c' g' w' _ Q hR' ((hA.mono hle).put _ hv') fun c2 g2 ac2 w2 h1 h2 h3 => hQ c2 g2 ac2 w2 (hle.trans h1) h2 h3
            · cases h
          · cases h
        · split at h
          · rename_i v S1 hev
            obtain ⟨nx, w', c', g', hrun, hle, hR', hv'⟩ := evOp_done hpre hev
            unfold Oper.wp
            rw [hrun]
            rcases hv' with ⟨u, rfl, hvu⟩ | ⟨rfl, rfl⟩
            · rw [Oper.upon_value]
              exact ih (a.put o.dst v) S1 a' S' h c' g' w' _ Q hR' ((hA.mono hle).put _ hvu) fun c2 g2 ac2 w2 h1 h2 h3 => hQ c2 g2 ac2 w2 (hle.trans h1) h2 h3
            · rw [Oper.upon_skip]
              exact ih (a.put o.dst undef) S1 a' S' h c' g' w' _ Q hR' ((hA.mono hle).put _ (VR.undef c')) fun c2 g2 ac2 w2 h1 h2 h3 => hQ c2 g2 ac2 w2 (hle.trans h1) h2 h3
          · cases h
      · cases h
    · rename_i hw
      rw [if_neg hw]
      exact ih (a.put o.dst undef) S a' S' h c g w _ Q hR (hA.put _ (VR.undef c)) hQ

theorem evOne_ok {call : CallF} (hcall : CallOK P G w0 call) (ops : Array Oper) {i : Nat} (hi : ops[i]? = some o) (h : evOps P G call ops [o] a S = some (a', S')) (hR : Rel G w0 c g S w) (hA : ActR c a ac) {Q : Exit → Act → World → Prop} {K : Act → World → Prop}
    (hK : ∀ c' g' ac' w', c.le c' → Rel G w0 c' g' S' w' → ActR c' a' ac' → K ac' w') : wpOp P ops Q i K ac w := by
  unfold evOps at h
  unfold wpOp
  simp only [hi]
  rw [yielded_rel hA]
  split at h
  · rename_i hw
    rw [if_pos hw]
    split at h
    · rename_i hop
      have hpre : Pre G w0 c g S w a ac o := ⟨hR, hA, hop⟩
      refine .inl ?_
      split at h
      · rename_i f args hco
        split at h
        · rename_i hf
          split at h
          · rename_i v S1 hcl
            simp only [evOps, Option.some.injEq, Prod.mk.injEq] at h
            obtain ⟨rfl, rfl⟩ := h
            obtain ⟨args', hrun, hsz, hvr⟩ := callOf_run (P := P) hpre hco hf
            unfold Oper.wp
            rw [hrun, Oper.upon_enter]
            refine (hcall f args S v S1 hcl c g w args' hR hsz hvr).mono ?_
            rintro e w' ⟨u, c', g', rfl, hle, hR', hv'⟩
            exact hK c' g' _ w' hle hR' ((hA.mono hle).put _ hv')
          · cases h
        · cases h
      · split at h
        · rename_i v S1 hev
          simp only [evOps, Option.some.injEq, Prod.mk.injEq] at h
          obtain ⟨rfl, rfl⟩ := h
          obtain ⟨nx, w', c', g', hrun, hle, hR', hv'⟩ := evOp_done hpre hev
          unfold Oper.wp
          rw [hrun]
          rcases hv' with ⟨u, rfl, hvu⟩ | ⟨rfl, rfl⟩
          · rw [Oper.upon_value]
            exact hK c' g' _ w' hle hR' ((hA.mono hle).put _ hvu)
          · rw [Oper.upon_skip]
            exact hK c' g' _ w' hle hR' ((hA.mono hle).put _ (VR.undef c'))
        · cases h
    · cases h
  · rename_i hw
    rw [if_neg hw]
    simp only [evOps, Option.some.injEq, Prod.mk.injEq] at h
    obtain ⟨rfl, rfl⟩ := h
    exact hK c g _ w (Ctx.le.refl _) hR (hA.put _ (VR.undef c))

theorem stillH_ok {c0 : Ctx} (hpre : Pre G w0 c g S w a ac o) (hc : c0.le c) {H : List Hold} (hd : HOK c0 H) (h : stillH P H a o S = some v) :
    ∃ u, VR c v u ∧ ∀ w, HeldC P c0 H w → (execOp ac.eval o).run P w = .ok (.value u) w := by
  unfold stillH at h
  split at h
  · rename_i v' hv
    cases h
    obtain ⟨u, hvu, hrun⟩ := evStill_ok hpre hv
    exact ⟨u, hvu, fun w _ => hrun w⟩
  · split at h
    · rename_i t b i hl
      exact load_held hpre.rel hpre.act hc hd hl hpre.opnd (findH_mem h)
    · cases h

theorem firstStill_ok {c0 : Ctx} (ops : Array Oper) (listed : Array Bool) (hR : Rel G w0 c g S w) (hA : ActR c a ac) (hc : c0.le c) {H : List Hold} (hd : HOK c0 H) : ∀ (l : List Nat) (j : Nat) (o : Oper) (v : Value), firstStill P G H ops listed a S l = some (j, o, v) →
    ops[j]? = some o ∧ Region.free .any ops listed j = true ∧ ∃ u, VR c v u ∧ YieldsIf P ops (HeldC P c0 H) o u ac := by
  intro l
  induction l with
  | nil => intro j o v h; cases h
  | cons k rest ih =>
    intro j o v h
    unfold firstStill at h
    split at h
    · rename_i o' ho'
      split at h
      · rename_i hw
        split at h
        · rename_i v' hv'
          split at h
          · rename_i hcc
            simp only [Option.some.injEq, Prod.mk.injEq] at h
            obtain ⟨rfl, rfl, rfl⟩ := h
            obtain ⟨u, hvu, hrun⟩ := stillH_ok (⟨hR, hA, hcc.1⟩ : Pre G w0 c g S w a ac o') hc hd hv'
            exact ⟨ho', hcc.2, u, hvu, .inl ⟨by rw [yielded_rel hA]; exact hw, hrun⟩⟩
          · exact ih j o v h
        · exact ih j o v h
      · rename_i hw
        split at h
        · rename_i hf
          simp only [Option.some.injEq, Prod.mk.injEq] at h
          obtain ⟨rfl, rfl, rfl⟩ := h
          exact ⟨ho', hf, undef, VR.undef c, .inr ⟨by rw [yielded_rel hA]; simpa using hw, rfl⟩⟩
        · exact ih j o v h
    · cases h

theorem firstA_ok (ops : Array Oper) (listed : Array Bool) (hR : Rel G w0 c g S w) (hA : ActR c a ac) {H : List Hold} (hd : HOK c H) (hh : HeldC P c H w) : ∀ (l : List Nat) (j : Nat) (o : Oper) (v : Value) (H' : List Hold), firstA P G ops H listed a S l = some (j, o, v, H') →
    ops[j]? = some o ∧ Region.free .any ops listed j = true ∧ HOK c H' ∧ HeldC P c H' w ∧ (∀ h ∈ H, h ∈ H') ∧ ∃ u, VR c v u ∧ ∀ H2 : List Hold, (∀ h ∈ H', h ∈ H2) → HOK c H2 → YieldsIf P ops (HeldC P c H2) o u ac := by
  intro l
  induction l with
  | nil => intro j o v H' h; cases h
  | cons k rest ih =>
    intro j o v H' h
    unfold firstA at h
    split at h
    · rename_i o' ho'
      split at h
      · rename_i hf
        split at h
        · rename_i hw
          split at h
          · rename_i hop
            have hpre : Pre G w0 c g S w a ac o' := ⟨hR, hA, hop⟩
            split at h
            · rename_i v' hv'
              simp only [Option.some.injEq, Prod.mk.injEq] at h
              obtain ⟨rfl, rfl, rfl, rfl⟩ := h
              obtain ⟨u, hvu, hrun⟩ := evStill_ok hpre hv'
              exact ⟨ho', hf, hd, hh, fun _ h => h, u, hvu, fun H2 _ _ => .inl ⟨by rw [yielded_rel hA]; exact hw, fun w _ => hrun w⟩⟩
            · split at h
              · rename_i t b i hl
                split at h
                · rename_i v' hv'
                  split at h
                  · rename_i hb
                    simp only [Option.some.injEq, Prod.mk.injEq] at h
                    obtain ⟨rfl, rfl, rfl, rfl⟩ := h
                    obtain ⟨hbn, u, hrun, hvr⟩ := ldA_run hR hv'
                    have hdet : det c.n 6 v' = true := by rw [← hR.n]; exact hb.2
                    have hu := det_conc (Ctx.le.refl c) 6 v' u hdet hvr
                    subst hu
                    have hd' : HOK c ((t, b, i, v') :: H) := fun x hx => by
                      rcases List.mem_cons.1 hx with rfl | hx
                      · exact ⟨hbn, hdet, hvr⟩
                      · exact hd x hx
                    refine ⟨ho', hf, hd', fun x hx => ?_, fun _ h => List.mem_cons_of_mem _ h, conc c 6 v', hvr, fun H2 h2 hd2 => ?_⟩
                    · rcases List.mem_cons.1 hx with rfl | hx
                      · exact hrun
                      · exact hh x hx
                    · obtain ⟨u2, hvu2, hrun2⟩ := load_held hR hA (Ctx.le.refl c) hd2 hl hop (v := v') (h2 _ (by simp))
                      have := det_conc (Ctx.le.refl c) 6 v' u2 hdet hvu2
                      subst this
                      exact .inl ⟨by rw [yielded_rel hA]; exact hw, hrun2⟩
                  · exact ih j o v H' h
                · exact ih j o v H' h
              · exact ih j o v H' h
          · exact ih j o v H' h
        · rename_i hw
          simp only [Option.some.injEq, Prod.mk.injEq] at h
          obtain ⟨rfl, rfl, rfl, rfl⟩ := h
          exact ⟨ho', hf, hd, hh, fun _ h => h, undef, VR.undef c, fun _ _ _ => .inr ⟨by rw [yielded_rel hA]; simpa using hw, rfl⟩⟩
      · exact ih j o v H' h
    · cases h

theorem evA_ok (ops : Array Oper) (hns : Region.noSelect ops = true) (hR : Rel G w0 c g S w) (Q : Exit → Act → World → Prop) (hP : ∀ x a w, ¬ Q (.panic x) a w) : ∀ (n : Nat) (listed : Array Bool) (a ac : Act) (H : List Hold) (m : Nat) (listed' : Array Bool) (a' : Act) (H' : List Hold), evA P G ops S n listed a H = (m, listed', a', H') → ActR c a ac → HOK c H → HeldC P c H w →
    (∀ h ∈ H, h ∈ H') ∧ HOK c H' ∧ HeldC P c H' w ∧ ∃ ac', ActR c a' ac' ∧ (wpAnyH P .any ops Q (HeldC P c H') m listed' ac' w → wpAnyH P .any ops Q (HeldC P c H') n listed ac w) := by
  intro n
  induction n with
  | zero =>
    intro listed a ac H m listed' a' H' h hA hd hh
    unfold evA at h
    cases h
    exact ⟨fun _ h => h, hd, hh, ac, hA, fun h => h⟩
  | succ n ih =>
    intro listed a ac H m listed' a' H' h hA hd hh
    unfold evA at h
    split at h
    · cases h; exact ⟨fun _ h => h, hd, hh, ac, hA, fun h => h⟩
    · rename_i i rest hr
      split at h
      · rename_i j o v H1 hfa
        split at h
        · rename_i hcon
          obtain ⟨hj, hfree, hd1, hh1, hsub, u, hvu, hy⟩ := firstA_ok ops listed hR hA hd hh _ _ _ _ _ hfa
          obtain ⟨hs2, hd2, hh2, ac', hA', hgo⟩ := ih _ _ _ _ _ _ _ _ h (hA.put _ hvu) hd1 hh1
          exact ⟨fun x hx => hs2 x (hsub x hx), hd2, hh2, ac', hA', fun hw => wpAnyH_take hj hns hfree (by rw [hr]; exact hcon) (fun x a w hq => absurd hq (hP x _ w)) (hy H' hs2 hd2) hh2 (hgo hw)⟩
        · cases h; exact ⟨fun _ h => h, hd, hh, ac, hA, fun h => h⟩
      · cases h; exact ⟨fun _ h => h, hd, hh, ac, hA, fun h => h⟩

theorem joins_ok {nb nf : Nat} {e e' : Ent} {c0 : Ctx} (hj : joins nb nf e e' = true) (hc : c0.le c) (hn : c0.n = nb) (hG : G ≤ nb) (hR : Rel G w0 c g e.S w) (hA : ActR c e.a ac) :
    e.listed = e'.listed ∧ ∃ c' g', c0.le c' ∧ Rel G w0 c' g' e'.S w ∧ ActR c' e'.a ac := by
  unfold joins at hj
  split at hj
  rename_i x y _
  simp only [Bool.and_eq_true, decide_eq_true_eq] at hj
  obtain ⟨hl, h1, h2⟩ := hj
  rw [hR.n] at h2
  exact ⟨Array.ext' hl, _, _, hc.ren (r := ⟨nb, x⟩) (Nat.le_of_eq hn), hR.ren (r := ⟨nb, x⟩) (t := ⟨nf, y⟩) hG h1, hA.ren h2⟩

/-- A way that goes on as one of these. -/
def Goes (G : Nat) (w0 : World) (c0 : Ctx) (es : List Ent) (listed : Array Bool) (ac : Act) (w : World) : Prop :=
  ∃ e ∈ es, e.listed = listed ∧ ∃ c g, c0.le c ∧ Rel G w0 c g e.S w ∧ ActR c e.a ac

theorem Goes.insert {nb nf : Nat} {c0 : Ctx} (hn : c0.n = nb) (hG : G ≤ nb) (e : Ent) : ∀ (L : List Ent) {listed : Array Bool} {ac : Act} {w : World}, Goes G w0 c0 (e :: L) listed ac w → Goes G w0 c0 (insertE nb nf e L) listed ac w := by
  intro L
  induction L with
  | nil => intro listed ac w h; exact h
  | cons e' rest ih =>
    intro listed ac w h
    unfold insertE
    obtain ⟨x, hx, hl, c, g, hc, hR, hA⟩ := h
    split
    · rename_i hj
      rcases List.mem_cons.1 hx with rfl | hx
      · obtain ⟨h1, c', g', h2, h3, h4⟩ := joins_ok hj hc hn hG hR hA
        exact ⟨e', by simp, h1.symm.trans hl, c', g', h2, h3, h4⟩
      · exact ⟨x, hx, hl, c, g, hc, hR, hA⟩
    · rcases List.mem_cons.1 hx with rfl | hx
      · obtain ⟨y, hy, r⟩ := ih ⟨x, by simp, hl, c, g, hc, hR, hA⟩
        exact ⟨y, by simp [hy], r⟩
      · rcases List.mem_cons.1 hx with rfl | hx
        · exact ⟨x, by simp, hl, c, g, hc, hR, hA⟩
        · obtain ⟨y, hy, r⟩ := ih ⟨x, by simp [hx], hl, c, g, hc, hR, hA⟩
          exact ⟨y, by simp [hy], r⟩

theorem Goes.fold {nb nf : Nat} {c0 : Ctx} (hn : c0.n = nb) (hG : G ≤ nb) (L' : List Ent) {listed : Array Bool} {ac : Act} {w : World} : ∀ (L : List Ent), Goes G w0 c0 (L ++ L') listed ac w → Goes G w0 c0 (L.foldr (insertE nb nf) L') listed ac w := by
  intro L
  induction L with
  | nil => intro h; exact h
  | cons e rest ih =>
    intro h
    rw [List.foldr_cons]
    refine Goes.insert hn hG e _ ?_
    obtain ⟨x, hx, r⟩ := h
    rcases List.mem_cons.1 hx with rfl | hx
    · exact ⟨x, by simp, r⟩
    · obtain ⟨y, hy, r'⟩ := ih ⟨x, hx, r⟩
      exact ⟨y, by simp [hy], r'⟩

theorem evSuccs_ok {call : CallF} {H : List Hold} {ops : Array Oper} {nb nf : Nat} {c0 : Ctx} (hn : c0.n = nb) (hG : G ≤ nb) {listed : Array Bool} {ac : Act} {w : World} : ∀ (es es' : List Ent), evSuccs P G call H ops nb nf es = some es' → ∀ e ∈ es, ∃ l, evSucc P G call H ops e = some l ∧
    ∀ (listed : Array Bool) (ac : Act) (w : World), Goes G w0 c0 l listed ac w → Goes G w0 c0 es' listed ac w := by
  intro es
  induction es with
  | nil => intro es' _ e he; cases he
  | cons e0 rest ih =>
    intro es' h e he
    unfold evSuccs at h
    split at h
    · rename_i l l' hl hl'
      cases h
      rcases List.mem_cons.1 he with rfl | he
      · exact ⟨l, hl, fun listed ac w ⟨x, hx, r⟩ => Goes.fold hn hG _ _ ⟨x, by simp [hx], r⟩⟩
      · obtain ⟨l2, h2, h3⟩ := ih l' hl' e he
        refine ⟨l2, h2, fun listed ac w hg => ?_⟩
        obtain ⟨x, hx, r⟩ := h3 _ _ _ hg
        exact Goes.fold hn hG _ _ ⟨x, by simp [hx], r⟩
    · cases h

theorem mapM_mem {f : Nat → Option Ent} : ∀ (l : List Nat) (r : List Ent), l.mapM f = some r → ∀ i ∈ l, ∃ e ∈ r, f i = some e := by
  intro l
  induction l with
  | nil => intro r _ i hi; cases hi
  | cons x rest ih =>
    intro r h i hi
    rw [List.mapM_cons] at h
    cases hx : f x with
    | none => rw [hx] at h; cases h
    | some e =>
      rw [hx] at h
      cases hr : rest.mapM f with
      | none => rw [hr] at h; cases h
      | some r' =>
        rw [hr] at h
        cases h
        rcases List.mem_cons.1 hi with rfl | hi
        · exact ⟨e, by simp, hx⟩
        · obtain ⟨e', he', h'⟩ := ih r' hr i hi
          exact ⟨e', by simp [he'], h'⟩

theorem evWays_ok {call : CallF} (hcall : CallOK P G w0 call) (ops : Array Oper) (hns : Region.noSelect ops = true) {nb nf : Nat} {c0 : Ctx} (hn : c0.n = nb) (hG : G ≤ nb) {H : List Hold} (hd : HOK c0 H) : ∀ (n : Nat) (es : List Ent) (a' : Act) (S' : St), evWays P G call H ops nb nf n es = some (a', S') →
    ∀ (listed : Array Bool) (w : World) (ac : Act) (Q : Exit → Act → World → Prop), HeldC P c0 H w → Goes G w0 c0 es listed ac w → (∀ x a w, ¬ Q (.panic x) a w) →
      (∀ c' g' ac' w', c0.le c' → Rel G w0 c' g' S' w' → ActR c' a' ac' → Q .normal ac' w') → wpAnyH P .any ops Q (HeldC P c0 H) n listed ac w := by
  intro n
  induction n with
  | zero =>
    intro es a' S' h listed w ac Q _ hg _ hQ
    unfold evWays at h
    split at h
    · rename_i e
      obtain ⟨x, hx, rfl, c, g, hc, hR, hA⟩ := hg
      obtain rfl : x = e := by simpa using hx
      split at h
      · rename_i hr
        cases h
        exact wpAnyH_done hr (hQ c g ac w hc hR hA) 0
      · cases h
    · cases h
  | succ n ih =>
    intro es a' S' h listed w ac Q hH hg hP hQ
    unfold evWays at h
    split at h
    · rename_i es' he
      obtain ⟨e, hmem, rfl, c, g, hc, hR, hA⟩ := hg
      obtain ⟨l, hl, hgo⟩ := evSuccs_ok (P := P) (w0 := w0) (listed := e.listed) (ac := ac) (w := w) hn hG es es' he e hmem
      unfold evSucc at hl
      split at hl
      · cases hl
      · rename_i i rest hr
        split at hl
        · rename_i j o v hfs
          split at hl
          · rename_i hcon
            cases hl
            obtain ⟨hj, hfree, u, hvu, hy⟩ := firstStill_ok (P := P) ops e.listed hR hA hc hd _ _ _ _ hfs
            exact wpAnyH_take hj hns hfree (by rw [hr]; exact hcon) (fun x a w hq => absurd hq (hP x _ w)) hy hH
              (ih es' _ _ h _ w _ Q hH (hgo _ _ _ ⟨_, List.mem_singleton.2 rfl, rfl, c, g, hc, hR, hA.put _ hvu⟩) hP hQ)
          · cases hl
        · refine wpAnyH_all hr (by simp) (fun k hk => ?_)
          obtain ⟨e1, hm1, hk1⟩ := mapM_mem _ _ hl k hk
          unfold evNext at hk1
          split at hk1
          · rename_i o hi
            split at hk1
            · rename_i a1 S1 hev
              split at hk1
              · rename_i hho
                cases hk1
                refine evOne_ok hcall ops hi hev hR hA fun c1 g1 ac1 w1 hle hR1 hA1 => ?_
                have hH1 := holds_ok hR1 (hc.trans hle) hd hho
                exact ⟨hH1, ih es' _ _ h _ w1 ac1 Q hH1 (hgo _ _ _ ⟨_, hm1, rfl, c1, g1, hc.trans hle, hR1, hA1⟩) hP hQ⟩
              · cases hk1
            · cases hk1
          · cases hk1
    · cases h

theorem evDraw_ok {call : CallF} (hcall : CallOK P G w0 call) (ops : Array Oper) (hns : Region.noSelect ops = true) (n : Nat) (listed : Array Bool) (a : Act) (S : St) (a' : Act) (S' : St) (h : evDraw P G call ops n listed a S = some (a', S'))
    (c : Ctx) (g : Gh) (w : World) (ac : Act) (Q : Exit → Act → World → Prop) (hR : Rel G w0 c g S w) (hA : ActR c a ac) (hP : ∀ x a w, ¬ Q (.panic x) a w)
      (hQ : ∀ c' g' ac' w', c.le c' → Rel G w0 c' g' S' w' → ActR c' a' ac' → Q .normal ac' w') : wpAny P .any ops Q n listed ac w := by
  unfold evDraw at h
  split at h
  rename_i m listed' a1 H he
  split at h
  case h_2 =>
    exact wpAny_of_held _ _ _ _ (evWays_ok hcall ops hns hR.n.symm (by rw [hR.n]; exact hR.glob.1) (H := []) (fun _ h => by cases h) n _ _ _ h _ w ac Q (fun _ h => by cases h) ⟨_, List.mem_singleton.2 rfl, rfl, c, g, Ctx.le.refl _, hR, hA⟩ hP hQ)
  rename_i r hw
  cases h
  obtain ⟨_, hd, hh, ac', hA', hgo⟩ := evA_ok ops hns hR Q hP n listed a ac [] m listed' a1 H he hA (fun _ h => by cases h) (fun _ h => by cases h)
  exact wpAny_of_held _ _ _ _ (hgo (evWays_ok hcall ops hns hR.n.symm (by rw [hR.n]; exact hR.glob.1) hd m _ _ _ hw _ w ac' Q hh ⟨_, List.mem_singleton.2 rfl, rfl, c, g, Ctx.le.refl _, hR, hA'⟩ hP hQ))

def resSem (tmps : Array Value) : ResultVar → Sem Value
  | .tmp t => pure (tmps.getD t undef)
  | .cell b t => do loadVar t (← asAddr (tmps.getD b undef))

theorem results_eq (fn : Func) (tmps : Array Value) : results fn tmps = (do let vs ← fn.results.mapM (resSem tmps); pure (if h : vs.size = 1 then vs[0] else .tuple vs)) := by
  unfold results
  congr

theorem results_run (hR : Rel G w0 c g S w) (hA : ActR c a ac) {fn : Func} (h : resultsA P S fn a.tmps = some v) : ∃ u, (results fn ac.tmps).run P w = .ok u w ∧ VR c v u := by
  have one : ∀ (r : ResultVar) (v : Value), resA P S a.tmps r = some v → ∃ u, (resSem ac.tmps r).run P w = .ok u w ∧ VR c v u := fun r v hr => by
    cases r with
    | tmp t => cases hr; exact ⟨_, rfl, hA.getD t⟩
    | cell b t =>
      simp only [resA] at hr
      split at hr
      · rename_i b' off hb
        have hv := hA.getD b
        rw [hb] at hv
        obtain ⟨hbn, u, hrun, hvr⟩ := ldA_run hR hr
        refine ⟨u, ?_, hvr⟩
        simp only [resSem]
        generalize ac.tmps.getD b undef = x at hv ⊢
        cases hv with
        | ptr _ _ _ => simp [asAddr, hrun]
      · cases hr
  have list : ∀ (l : List ResultVar) (vs : List Value), l.mapM (m := Option) (resA P S a.tmps) = some vs → ∃ us : List Value, (l.mapM (resSem ac.tmps)).run P w = .ok us w ∧ us.length = vs.length ∧ ∀ (i : Nat) (x y : Value), vs[i]? = some x → us[i]? = some y → VR c x y := by
    intro l
    induction l with
    | nil => intro vs h; simp only [List.mapM_nil, pure, Option.some.injEq] at h; subst h; exact ⟨[], rfl, rfl, fun i x y hx _ => by simp at hx⟩
    | cons r l ih =>
      intro vs h
      simp only [List.mapM_cons, bind, Option.bind_eq_some_iff] at h
      obtain ⟨v1, h1, h⟩ := h
      obtain ⟨vs', h2, h⟩ := h
      simp only [pure, Option.some.injEq] at h
      subst h
      obtain ⟨u1, hr1, hv1⟩ := one r v1 h1
      obtain ⟨us, hr2, hl, hv2⟩ := ih vs' h2
      refine ⟨u1 :: us, ?_, by simp [hl], fun i x y hx hy => ?_⟩
      · rw [List.mapM_cons, Sem.run_bind, hr1]
        simp only [Result.andThen_ok, Sem.run_bind, hr2, Sem.run_pure]
      · cases i with
        | zero => simp at hx hy; rw [← hx, ← hy]; exact hv1
        | succ i => exact hv2 i x y (by simpa using hx) (by simpa using hy)
  unfold resultsA at h
  have harr : ∀ us : List Value, (fn.results.toList.mapM (resSem ac.tmps)).run P w = .ok us w →
      (results fn ac.tmps).run P w = .ok (if h : us.toArray.size = 1 then us.toArray[0] else .tuple us.toArray) w := fun us hus => by
    rw [results_eq, Array.mapM_eq_mapM_toList, Sem.run_bind, Sem.run_map, hus]
    rfl
  split at h
  · rename_i v1 hvs
    cases h
    obtain ⟨us, hr, hl, hv⟩ := list _ _ hvs
    match us, hl with
    | [u], _ => exact ⟨u, by rw [harr _ hr]; rfl, hv 0 _ _ rfl rfl⟩
  · rename_i vs hne hvs
    cases h
    obtain ⟨us, hr, hl, hv⟩ := list _ _ hvs
    refine ⟨.tuple us.toArray, ?_, .tuple _ _ (by simp [hl]) fun i x y hx hy => hv i x y (by simpa using hx) (by simpa using hy)⟩
    rw [harr _ hr, dif_neg]
    intro h1
    have : vs.length = 1 := by rw [← hl]; simpa using h1
    match vs, this with
    | [x], _ => exact hne x rfl
  · cases h

theorem runFn_ok {ev : CodeF} (hev : CodeOK P G w0 ev) : CallOK P G w0 (runFn P ev) := by
  intro f args S v S' h c g w args' hR hsz hvr
  unfold runFn at h
  split at h
  · rename_i fn hfn
    split at h
    · rename_i k hk
      have hA : ActR c { tmps := args ++ Array.replicate (fn.ntmps - args.size) undef, defers := [] } { tmps := args' ++ Array.replicate (fn.ntmps - args'.size) undef, defers := [] } := by
        refine ⟨by simp [hsz], fun i x y hx hy => ?_, rfl, rfl⟩
        simp only at hx hy
        rw [Array.getElem?_append] at hx hy
        rw [hsz] at hx
        split at hx
        · rename_i h1; rw [if_pos h1] at hy; exact hvr i x y hx hy
        · rename_i h1
          rw [if_neg h1] at hy
          rw [Array.getElem?_replicate] at hx hy
          split at hx
          · rename_i h2
            rw [if_pos h2] at hy
            cases hx; cases hy
            exact VR.undef c
          · cases hx
      have key : ∀ (e : AEx) (a' : Act) (S1 : St), ev k { tmps := args ++ Array.replicate (fn.ntmps - args.size) undef, defers := [] } S = some (e, a', S1) → (e = .normal ∨ e = .ret) → (resultsA P S1 fn a'.tmps).map (fun v => (v, S1)) = some (v, S') →
          Calls P f args' w fun e w' => ∃ u c' g', e = .returned u ∧ c.le c' ∧ Rel G w0 c' g' S' w' ∧ VR c' v u := fun e a' S1 he hee hres => by
        rw [Option.map_eq_some_iff] at hres
        obtain ⟨v1, hv1, e1⟩ := hres
        cases e1
        refine calls_of_wp hfn hk (wp_mono (hev _ _ _ _ _ _ he c g w _ hR hA) ?_)
        rintro e' ac' w' ⟨rfl, c', g', hle, hR', hA'⟩
        obtain ⟨u, hu, hvu⟩ := results_run hR' hA' hv1
        rcases hee with rfl | rfl
        · exact ⟨hA'.dc, u, hu, u, c', g', rfl, hle, hR', hvu⟩
        · exact ⟨hA'.dc, u, hu, u, c', g', rfl, hle, hR', hvu⟩
      split at h
      · rename_i a1 S1 he; exact key _ _ _ he (.inl rfl) h
      · rename_i a1 S1 he; exact key _ _ _ he (.inr rfl) h
      · cases h
    · cases h
  · cases h

theorem evC_ok (P : Program) (G : Nat) (w0 : World) : ∀ n, CodeOK P G w0 (evC P G n) := by
  intro n
  induction n with
  | zero => intro k a S e a' S' h; cases h
  | succ n ih =>
    intro k a S e a' S' h c g w ac hR hA
    have here : ∀ {e : AEx}, (a, S) = (a', S') → (fun (e' : Exit) (ac' : Act) (w' : World) => e' = e.out ∧ ∃ c' g', c.le c' ∧ Rel G w0 c' g' S' w' ∧ ActR c' a' ac') e.out ac w := fun hh => by
      cases hh
      exact ⟨rfl, c, g, Ctx.le.refl _, hR, hA⟩
    cases k with
    | skip => simp only [evC, Option.some.injEq, Prod.mk.injEq] at h; obtain ⟨rfl, rfl, rfl⟩ := h; exact wp_skip (here (e := .normal) rfl)
    | label l => simp only [evC, Option.some.injEq, Prod.mk.injEq] at h; obtain ⟨rfl, rfl, rfl⟩ := h; exact wp_label (here (e := .normal) rfl)
    | exit id => simp only [evC, Option.some.injEq, Prod.mk.injEq] at h; obtain ⟨rfl, rfl, rfl⟩ := h; exact wp_exit (here (e := .exit id) rfl)
    | ret => simp only [evC, Option.some.injEq, Prod.mk.injEq] at h; obtain ⟨rfl, rfl, rfl⟩ := h; exact wp_ret (here (e := .ret) rfl)
    | region id ops draw =>
      simp only [evC] at h
      split at h
      · rename_i hd
        subst hd
        split at h
        · rename_i hm
          split at h
          · rename_i a1 S1 he
            cases h
            exact wp_region_any hm.1 (evDraw_ok (runFn_ok ih) ops hm.2 _ _ _ _ _ _ he c g _ ac _ hR.drew hA (fun x a w hq => by cases hq.1) fun c' g' ac' w' h1 h2 h3 => ⟨rfl, c', g', h1, h2, h3⟩)
          · cases h
        · cases h
      · rename_i hd
        obtain rfl : draw = false := by simpa using hd
        split at h
        · rename_i a1 S1 he
          cases h
          refine wp_region_list (evOps_ok (runFn_ok ih) ops ops.toList a S _ _ he c g w ac _ hR hA fun c' g' ac' w' h1 h2 h3 => ⟨rfl, c', g', h1, h2, h3⟩)
        · cases h
    | seq x y =>
      simp only [evC] at h
      split at h
      · rename_i a1 S1 he
        refine wp_seq (wp_mono (ih x a S _ _ _ he c g w ac hR hA) ?_)
        rintro e' ac1 w1 ⟨rfl, c1, g1, hle, hR1, hA1⟩
        refine wp_mono (ih y a1 S1 _ _ _ h c1 g1 w1 ac1 hR1 hA1) ?_
        rintro e2 ac2 w2 ⟨rfl, c2, g2, hle2, hR2, hA2⟩
        exact ⟨rfl, c2, g2, hle.trans hle2, hR2, hA2⟩
      · rename_i hne
        refine wp_seq (wp_mono (ih x a S _ _ _ h c g w ac hR hA) ?_)
        rintro e' ac1 w1 ⟨rfl, hrest⟩
        cases e with
        | normal => exact absurd h (by simpa using hne a' S')
        | exit id => exact ⟨rfl, hrest⟩
        | ret => exact ⟨rfl, hrest⟩
    | cond x k1 k2 =>
      simp only [evC] at h
      split at h
      · rename_i hx
        split at h
        · rename_i b hb
          have hv := eval_rel hR hA hx
          rw [hb] at hv
          refine wp_cond hv.bool_inv ?_
          have := ih (cond b k1 k2) a S _ _ _ h c g w ac hR hA
          cases b
          · exact this
          · exact this
        · cases h
      · cases h
    | block id b =>
      simp only [evC] at h
      split at h
      · rename_i j a1 S1 he
        refine wp_block (wp_mono (ih b a S _ _ _ he c g w ac hR hA) ?_)
        rintro e' ac1 w1 ⟨rfl, hrest⟩
        split at h
        · rename_i hj
          cases h
          simp only [AEx.out, Exit.inBlock, hj, if_true]
          exact ⟨trivial, hrest⟩
        · rename_i hj
          cases h
          simp only [AEx.out, Exit.inBlock, hj, if_false]
          exact ⟨trivial, hrest⟩
      · rename_i hne
        refine wp_block (wp_mono (ih b a S _ _ _ h c g w ac hR hA) ?_)
        rintro e' ac1 w1 ⟨rfl, hrest⟩
        cases e with
        | normal => exact ⟨rfl, hrest⟩
        | exit id => exact absurd h (by simpa using hne id a' S')
        | ret => exact ⟨rfl, hrest⟩
    | loop b =>
      simp only [evC] at h
      have key : ∀ (m : Nat) (a : Act) (S : St) (c : Ctx) (g : Gh) (w : World) (ac : Act), loopN (evC P G n b) m a S = some (e, a', S') → Rel G w0 c g S w → ActR c a ac →
          Code.rounds P b (fun e' ac' w' => e' = e.out ∧ ∃ c' g', c.le c' ∧ Rel G w0 c' g' S' w' ∧ ActR c' a' ac') m ac w := by
        intro m
        induction m with
        | zero => intro a S c g w ac h; cases h
        | succ m ihm =>
          intro a S c g w ac h hR hA
          rw [rounds_succ]
          simp only [loopN] at h
          split at h
          · rename_i a1 S1 he
            refine wp_mono (ih b a S _ _ _ he c g w ac hR hA) ?_
            rintro e' ac1 w1 ⟨rfl, c1, g1, hle, hR1, hA1⟩
            have hround := ihm a1 S1 c1 g1 w1 ac1 h hR1 hA1
            have mono : ∀ (m : Nat) (Q Q' : Exit → Act → World → Prop), (∀ e a w, Q e a w → Q' e a w) → ∀ a w, Code.rounds P b Q m a w → Code.rounds P b Q' m a w := by
              intro m Q Q' hq
              induction m with
              | zero => intro a w h; exact h
              | succ m ihm2 =>
                intro a w h
                rw [rounds_succ] at h ⊢
                refine wp_mono h fun e a w h => ?_
                cases e with
                | normal => exact ihm2 a w h
                | _ => exact hq _ _ _ h
            refine mono m _ _ ?_ _ _ hround
            rintro e2 ac2 w2 ⟨rfl, c2, g2, hle2, hR2, hA2⟩
            exact ⟨rfl, c2, g2, hle.trans hle2, hR2, hA2⟩
          · rename_i hne
            refine wp_mono (ih b a S _ _ _ h c g w ac hR hA) ?_
            rintro e' ac1 w1 ⟨rfl, hrest⟩
            cases e with
            | normal => exact absurd h (by simpa using hne a' S')
            | exit id => exact ⟨rfl, hrest⟩
            | ret => exact ⟨rfl, hrest⟩
      exact wp_loop_rounds n (key n a S c g w ac h hR hA)
    | _ => simp only [evC] at h; cases h

theorem evCall_ok (P : Program) (G : Nat) (w0 : World) (n : Nat) : CallOK P G w0 (evCall P G n) := runFn_ok (evC_ok P G w0 n)

end Go.Am
