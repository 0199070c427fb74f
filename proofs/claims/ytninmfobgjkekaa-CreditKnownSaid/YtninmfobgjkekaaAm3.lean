/- The evaluator of one operation over the abstract memory, and that the model's operation does the same. Conditions: as each theorem lists them. -/
import Derived.Test.YtninmfobgjkekaaAm2
set_option linter.unusedSimpArgs false
set_option linter.unusedVariables false
namespace Go.Am
open Go Go.RowKit

/-- A computation that looks at the program alone. -/
def pureRun (P : Program) {α : Type} : Sem α → Option α
  | .pure a => some a
  | .program k => pureRun P (k P)
  | _ => none

theorem pureRun_run {P : Program} {α : Type} : ∀ (s : Sem α) (x : α), pureRun P s = some x → ∀ w, s.run P w = .ok x w := by
  intro s
  induction s with
  | pure a => intro x h w; cases h; rfl
  | program k ih => intro x h w; exact ih P x h w
  | _ => intro x h; cases h

/-- What has been asked of an operation: in the model it yields this value, in a world that the new abstract memory stands for. -/
def Done (P : Program) (G : Nat) (w0 : World) (ac : Act) (o : Oper) (c : Ctx) (w : World) (v : Value) (S' : St) : Prop :=
  ∃ nx w' c' g', (execOp ac.eval o).run P w = .ok nx w' ∧ c.le c' ∧ Rel G w0 c' g' S' w' ∧ ((∃ u, nx = .value u ∧ VR c' v u) ∨ (nx = .skip ∧ v = undef))

theorem done_value {P : Program} {G : Nat} {w0 w w' : World} {ac : Act} {o : Oper} {c c' : Ctx} {g' : Gh} {v u : Value} {S' : St} {s : Sem Value} (he : execOp ac.eval o = (do pure (.value (← s))))
    (hr : s.run P w = .ok u w') (hc : c.le c') (hR : Rel G w0 c' g' S' w') (hv : VR c' v u) : Done P G w0 ac o c w v S' :=
  ⟨.value u, w', c', g', by rw [he]; simp [hr], hc, hR, .inl ⟨u, rfl, hv⟩⟩

/-- Frames. -/
structure ActR (c : Ctx) (a ac : Act) : Prop where
  size : a.tmps.size = ac.tmps.size
  get : ∀ (i : Nat) (x y : Value), a.tmps[i]? = some x → ac.tmps[i]? = some y → VR c x y
  da : a.defers = []
  dc : ac.defers = []

theorem ActR.mono {c c' : Ctx} (hc : c.le c') {a ac : Act} (h : ActR c a ac) : ActR c' a ac := ⟨h.size, fun i x y hx hy => (h.get i x y hx hy).mono hc, h.da, h.dc⟩

theorem VR.undef (c : Ctx) : VR c Go.undef Go.undef := .tuple _ _ rfl fun i x y hx _ => by simp at hx

theorem ActR.getD {c : Ctx} {a ac : Act} (h : ActR c a ac) (i : Nat) : VR c (a.tmps.getD i Go.undef) (ac.tmps.getD i Go.undef) := by
  by_cases hi : i < a.tmps.size
  · have h2 : i < ac.tmps.size := h.size ▸ hi
    simp only [Array.getD, hi, h2, dif_pos]
    exact h.get i _ _ (Array.getElem?_eq_getElem hi) (Array.getElem?_eq_getElem h2)
  · have h2 : ¬ i < ac.tmps.size := h.size ▸ hi
    simp only [Array.getD, hi, h2]
    exact VR.undef c

theorem ActR.put {c : Ctx} {a ac : Act} (h : ActR c a ac) (d : Option Tmp) {x y : Value} (hv : VR c x y) : ActR c (a.put d x) (ac.put d y) := by
  cases d with
  | none => exact h
  | some d =>
    refine ⟨by simp [Act.put, h.size], fun i x' y' hx hy => ?_, h.da, h.dc⟩
    simp only [Act.put] at hx hy
    rw [Array.getElem?_setIfInBounds] at hx hy
    split at hx
    · rename_i e
      rw [if_pos e] at hy
      split at hx
      · split at hy
        · cases hx; cases hy; exact hv
        · cases hy
      · cases hx
    · rename_i e
      rw [if_neg e] at hy
      exact h.get i _ _ hx hy

def okOpnd (G : Nat) : Operand → Bool
  | .const v => af 8 v
  | .global g => decide (g < G)
  | _ => true

theorem eval_rel {G : Nat} {w0 w : World} {c : Ctx} {g : Gh} {S : St} (hR : Rel G w0 c g S w) {a ac : Act} (h : ActR c a ac) {x : Operand} (hx : okOpnd G x = true) : VR c (a.eval x) (ac.eval x) := by
  cases x with
  | tmp t => exact h.getD t
  | const v => exact af_refl c 8 v hx
  | global i =>
    have hi : i < G := by simpa [okOpnd] using hx
    have := VR.ptr (c := c) i 0 (Nat.lt_of_lt_of_le hi hR.glob.1)
    rw [hR.glob.2 i hi] at this
    exact this
  | func f => exact .func _ _ _ _ _ rfl (fun i x y hx _ => by simp at hx) rfl (fun i x y hx _ => by simp at hx)

/-- An operation on values without addresses that looks at the program alone. -/
def evPure (P : Program) (a : Act) (o : Oper) : Option Value :=
  if o.op.operands.toList.all (fun x => af 8 (a.eval x)) = true then
    match o.op with
    | .select .. => none
    | _ => match pureRun P (execOp a.eval o) with
      | some (.value v) => if af 8 v = true then some v else none
      | _ => none
  else none

theorem evPure_done {P : Program} {G : Nat} {w0 w : World} {c : Ctx} {g : Gh} {S : St} (hR : Rel G w0 c g S w) {a ac : Act} (h : ActR c a ac) {o : Oper} (ho : o.op.operands.toList.all (okOpnd G) = true) {v : Value}
    (he : evPure P a o = some v) : Done P G w0 ac o c w v S := by
  unfold evPure at he
  split at he
  · rename_i haf
    have hsel : ∀ cs b, o.op ≠ .select cs b := fun cs b e => by rw [e] at he; cases he
    have hop : ∀ x ∈ o.op.operands, ac.eval x = a.eval x := fun x hx => by
      rw [List.all_eq_true] at ho haf
      have hm : x ∈ o.op.operands.toList := Array.mem_toList_iff.2 hx
      exact af_eq 8 _ _ (haf x hm) (eval_rel hR h (ho x hm))
    have key : ∀ (r : Option Value), (match pureRun P (execOp a.eval o) with
      | some (.value v) => if af 8 v = true then some v else none
      | _ => none) = some v → Done P G w0 ac o c w v S := fun _ hk => by
      split at hk
      · rename_i v' hv'
        split at hk
        · rename_i hav
          cases hk
          exact ⟨.value v, w, c, g, by rw [execOp_congr o hsel hop]; exact pureRun_run _ _ hv' w, Ctx.le.refl _, hR, .inl ⟨v, rfl, af_refl c 8 v hav⟩⟩
        · cases hk
      · cases hk
    split at he
    · cases he
    · exact key none he
  · cases he

theorem VR.bool_inv {c : Ctx} {b : Bool} {u : Value} (h : VR c (.bool b) u) : u = .bool b := by cases h; rfl
theorem VR.int_inv {c : Ctx} {k : IntKind} {n : Int} {u : Value} (h : VR c (.int k n) u) : u = .int k n := by cases h; rfl

def isAggA (P : Program) (t : TypeId) : Option Bool :=
  match P.underlying t with
  | some (.struct _) | some (.array _ _) => some true
  | some _ => some false
  | none => none

theorem run_isAgg {P : Program} {t : TypeId} {b : Bool} (h : isAggA P t = some b) (w : World) : (isAgg t).run P w = .ok b w := by
  unfold isAggA at h
  unfold isAgg
  split at h
  · rename_i e; cases h; simp [run_underlying e]
  · rename_i e; cases h; simp [run_underlying e]
  · rename_i d h1 h2 e
    cases h
    simp only [Sem.run_bind, run_underlying e, Result.andThen_ok]
    rfl
  · cases h

theorem run_sizeOf {P : Program} {t : TypeId} {i : TypeInfo} (h : P.info? t = some i) (w : World) : (sizeOf t).run P w = .ok i.size w := by
  simp [sizeOf, typeInfo, h]

/-- Reading a variable. -/
def ldA (P : Program) (S : St) (t : TypeId) (b off : Nat) : Option Value :=
  match isAggA P t, P.info? t with
  | some true, some i => (S.rd b off i.size).map fun vs => .agg vs.toArray
  | some false, some _ => match S.rd b off 1 with
    | some [v] => some v
    | _ => none
  | _, _ => none

theorem ldA_run {P : Program} {G : Nat} {w0 w : World} {c : Ctx} {g : Gh} {S : St} (hR : Rel G w0 c g S w) {t : TypeId} {b off : Nat} {v : Value} (h : ldA P S t b off = some v) :
    b < c.n ∧ ∃ u, (loadVar t ⟨(c.loc b).1, (c.loc b).2 + off, none⟩).run P w = .ok u w ∧ VR c v u := by
  unfold ldA at h
  split at h
  · rename_i i ha hi
    rw [Option.map_eq_some_iff] at h
    obtain ⟨vs, hvs, rfl⟩ := h
    obtain ⟨hb, hl, us, hul, hc, hv⟩ := hR.rd hvs
    refine ⟨hb, .agg us.toArray, ?_, .agg _ _ (by simp [hl, hul]) fun j x y hx hy => hv j x y (by simpa using hx) (by simpa using hy)⟩
    have := run_loadCells_list (P := P) w ⟨(c.loc b).1, (c.loc b).2 + off, none⟩ us (fun j u hu => by rw [Addr.add_lit]; exact hc j u hu)
    rw [hul] at this
    simp [loadVar, run_isAgg ha, run_sizeOf hi, this]
  · rename_i i ha hi
    split at h
    · rename_i v' hvs
      cases h
      obtain ⟨hb, hl, us, hul, hc, hv⟩ := hR.rd hvs
      match us, hul with
      | [u], _ =>
        have h0 := hc 0 u rfl
        rw [Nat.add_zero] at h0
        refine ⟨hb, u, ?_, hv 0 _ _ rfl rfl⟩
        simp [loadVar, run_isAgg ha, load, Sem.run, h0]
    · cases h
  · cases h

theorem VR.cells {c : Ctx} {v u : Value} (h : VR c v u) : v.cells.size = u.cells.size ∧ ∀ (i : Nat) (x y : Value), v.cells[i]? = some x → u.cells[i]? = some y → VR c x y := by
  have single : ∀ x y : Value, VR c x y → (#[x] : Array Value).size = (#[y] : Array Value).size ∧ ∀ (i : Nat) (x' y' : Value), (#[x] : Array Value)[i]? = some x' → (#[y] : Array Value)[i]? = some y' → VR c x' y' := fun x y hxy =>
    ⟨rfl, fun i x' y' hx hy => by
      cases i with
      | zero => simp at hx hy; rw [← hx, ← hy]; exact hxy
      | succ i => simp at hx⟩
  cases h with
  | agg xs ys hl hh => exact ⟨hl, hh⟩
  | _ => exact single _ _ (by constructor <;> assumption)

theorem VR.one {c : Ctx} {v u : Value} (h : VR c v u) : one u = one v := by cases h <;> rfl
theorem one_eq (v : Value) : v.oneCell' = one v := by cases v <;> rfl

/-- Writing a variable. -/
def stA (P : Program) (S : St) (t : TypeId) (b off : Nat) (v : Value) : Option St :=
  match P.info? t with
  | some i => if v.cells.size = i.size then S.wr b off v.cells.toList else none
  | none => none

theorem list_one {c : Ctx} {vs us : List Value} (hl : us.length = vs.length) (hv : ∀ (i : Nat) (v u : Value), vs[i]? = some v → us[i]? = some u → VR c v u) (h : vs.all Am.one = true) : ∀ u ∈ us, u.oneCell' = true := by
  intro u hu
  obtain ⟨i, hi, rfl⟩ := List.mem_iff_getElem.1 hu
  rw [one_eq, (hv i _ _ (List.getElem?_eq_getElem (by omega)) (List.getElem?_eq_getElem hi)).one]
  rw [List.all_eq_true] at h
  exact h _ (List.getElem_mem _)

theorem stA_run {P : Program} {G : Nat} {w0 w : World} {c : Ctx} {g : Gh} {S S' : St} (hR : Rel G w0 c g S w) {t : TypeId} {b off : Nat} {v u : Value} (h : stA P S t b off v = some S') (hv : VR c v u) :
    b < c.n ∧ ∃ w', (storeVar t ⟨(c.loc b).1, (c.loc b).2 + off, none⟩ u).run P w = .ok () w' ∧ Rel G w0 c g S' w' := by
  unfold stA at h
  split at h
  · rename_i i hi
    split at h
    · rename_i hsz
      obtain ⟨hcs, hcv⟩ := hv.cells
      have hl : u.cells.toList.length = v.cells.toList.length := by simpa using hcs.symm
      have hvv : ∀ (i : Nat) (x y : Value), v.cells.toList[i]? = some x → u.cells.toList[i]? = some y → VR c x y := fun i x y hx hy => hcv i x y (by simpa using hx) (by simpa using hy)
      obtain ⟨cur, e, hh, hfit, hb, hone, hR'⟩ := hR.wr h hl hvv
      refine ⟨hb, _, ?_, hR'⟩
      have := run_storeCells_at P (c.loc b).1 ((c.loc b).2 + off) e u.cells.toList 0 cur w hh (by simpa using hfit) (list_one hl hvv hone)
      simp only [Nat.add_zero] at this
      simp only [storeVar, Sem.run_bind, run_sizeOf hi, Result.andThen_ok]
      rw [if_neg (by rw [← hcs, hsz]; simp)]
      exact this
    · cases h
  · cases h


/-- A new variable, or a new row of cells. -/
theorem alloc_run {P : Program} {G : Nat} {w0 w : World} {c : Ctx} {g : Gh} {S S' : St} (hR : Rel G w0 c g S w) {sz b : Nat} {cells : List Value} (h : S.alloc sz cells = some (b, S')) {us : Array Value} (hl : cells.length = us.size)
    (hv : ∀ (i : Nat) (v u : Value), cells[i]? = some v → us[i]? = some u → VR c v u) (e : TypeId) :
    ∃ c' g', (newRow e us).run P w = .ok ⟨w.heap.size, 0, none⟩ (w.alloc (.cells us e)) ∧ c.le c' ∧ Rel G w0 c' g' S' (w.alloc (.cells us e)) ∧ b < c'.n ∧ c'.loc b = (w.heap.size, 0) ∧ c'.es b = sz ∧ c'.cz w.heap.size = us.size := by
  obtain ⟨rfl, c', g', hle, hn, hloc, hes, hcz, hR'⟩ := hR.alloc h (cur := us) (e := e) (by omega) hv
  exact ⟨c', g', by simp [newRow, newObj, Sem.run], hle, hR', by omega, hloc, hes, hcz⟩

def boxA (S : St) (v : Value) : Option (Value × St) :=
  match S.alloc v.cells.size v.cells.toList with
  | some (b, S') => some (.pointer (some ⟨b, 0, none⟩), S')
  | none => none

theorem boxA_run {P : Program} {G : Nat} {w0 w : World} {c : Ctx} {g : Gh} {S S' : St} (hR : Rel G w0 c g S w) {v u p : Value} (h : boxA S v = some (p, S')) (hv : VR c v u) (e : TypeId) :
    ∃ w' c' g' q, (Instr.box e u).run P w = .ok q w' ∧ c.le c' ∧ Rel G w0 c' g' S' w' ∧ VR c' p q := by
  unfold boxA at h
  split at h
  · rename_i b S1 hs
    cases h
    obtain ⟨hcs, hcv⟩ := hv.cells
    obtain ⟨c', g', hr, hle, hR', hb, hloc, _, _⟩ := alloc_run (P := P) hR hs (us := u.cells) (by simpa using hcs) (fun i x y hx hy => hcv i x y (by simpa using hx) hy) e
    have hp := VR.ptr (c := c') b 0 hb
    rw [hloc] at hp
    exact ⟨_, c', g', _, by simp [Instr.box, newVar, hr], hle, hR', hp⟩
  · cases h

/-- The parts of a literal. -/
theorem fill_rel {c : Ctx} (place : Nat → Option (Nat × Nat)) : ∀ (parts parts' : List (Nat × Value)) (cs cs' : Array Value) (out : Array Value),
    parts.length = parts'.length → (∀ (i : Nat) (x y : Nat × Value), parts[i]? = some x → parts'[i]? = some y → x.1 = y.1 ∧ VR c x.2 y.2) →
    cs.size = cs'.size → (∀ (i : Nat) (x y : Value), cs[i]? = some x → cs'[i]? = some y → VR c x y) → Instr.fill place cs parts = some out →
    ∃ out', Instr.fill place cs' parts' = some out' ∧ out.size = out'.size ∧ ∀ (i : Nat) (x y : Value), out[i]? = some x → out'[i]? = some y → VR c x y := by
  intro parts
  induction parts with
  | nil =>
    intro parts' cs cs' out hl _ hs hc h
    have : parts' = [] := List.eq_nil_of_length_eq_zero (by simpa using hl.symm)
    subst this
    simp only [Instr.fill, Option.some.injEq] at h ⊢
    subst h
    exact ⟨cs', rfl, hs, hc⟩
  | cons p rest ih =>
    intro parts' cs cs' out hl hp hs hc h
    match parts', hl with
    | q :: rest', hl =>
      obtain ⟨hpq, hv⟩ := hp 0 p q rfl rfl
      obtain ⟨i, v⟩ := p
      obtain ⟨i', v'⟩ := q
      simp only at hpq hv
      subst hpq
      obtain ⟨hcs, hcv⟩ := hv.cells
      simp only [Instr.fill] at h ⊢
      cases hpl : place i with
      | none => rw [hpl] at h; cases h
      | some os =>
        obtain ⟨off, size⟩ := os
        rw [hpl] at h
        simp only at h ⊢
        rw [← hcs, ← hs]
        split at h
        · cases h
        · rename_i hnot
          rw [if_neg hnot]
          have fold : ∀ (l l' : List (Value × Nat)) (ds ds' : Array Value), l.length = l'.length → (∀ (i : Nat) (x y : Value × Nat), l[i]? = some x → l'[i]? = some y → x.2 = y.2 ∧ VR c x.1 y.1) →
              ds.size = ds'.size → (∀ (i : Nat) (x y : Value), ds[i]? = some x → ds'[i]? = some y → VR c x y) →
              (l.foldl (fun cs (x : Value × Nat) => cs.setIfInBounds (off + x.2) x.1) ds).size = (l'.foldl (fun cs (x : Value × Nat) => cs.setIfInBounds (off + x.2) x.1) ds').size ∧
              ∀ (i : Nat) (x y : Value), (l.foldl (fun cs (x : Value × Nat) => cs.setIfInBounds (off + x.2) x.1) ds)[i]? = some x → (l'.foldl (fun cs (x : Value × Nat) => cs.setIfInBounds (off + x.2) x.1) ds')[i]? = some y → VR c x y := by
            intro l
            induction l with
            | nil =>
              intro l' ds ds' hll _ h1 h2
              have : l' = [] := List.eq_nil_of_length_eq_zero (by simpa using hll.symm)
              subst this
              exact ⟨h1, h2⟩
            | cons a l ihl =>
              intro l' ds ds' hll hpp h1 h2
              match l', hll with
              | a' :: l', hll =>
                obtain ⟨e1, e2⟩ := hpp 0 a a' rfl rfl
                simp only [List.foldl_cons]
                refine ihl l' _ _ (by simpa using hll) (fun i x y hx hy => hpp (i + 1) x y hx hy) (by simpa using h1) fun i x y hx hy => ?_
                rw [Array.getElem?_setIfInBounds] at hx hy
                rw [e1] at hx
                split at hx
                · rename_i e
                  rw [if_pos e] at hy
                  split at hx
                  · split at hy
                    · cases hx; cases hy; exact e2
                    · cases hy
                  · cases hx
                · rename_i e
                  rw [if_neg e] at hy
                  exact h2 i x y hx hy
          obtain ⟨f1, f2⟩ := fold v.cells.zipIdx.toList v'.cells.zipIdx.toList cs cs' (by simp [hcs]) (fun i x y hx hy => by
            simp only [Array.toList_zipIdx, List.getElem?_zipIdx, Option.map_eq_some_iff] at hx hy
            obtain ⟨x', hx', rfl⟩ := hx
            obtain ⟨y', hy', rfl⟩ := hy
            exact ⟨rfl, hcv i x' y' (by simpa using hx') (by simpa using hy')⟩) hs hc
          have e1 : ∀ (v : Value) (cs : Array Value), (v.cells.zipIdx.foldl (fun cs (x : Value × Nat) => cs.setIfInBounds (off + x.2) x.1) cs) = (v.cells.zipIdx.toList.foldl (fun cs (x : Value × Nat) => cs.setIfInBounds (off + x.2) x.1) cs) := fun v cs => by
            rw [Array.foldl_toList]
          exact ih rest' _ _ out (by simpa using hl) (fun i x y hx hy => hp (i + 1) x y hx hy) (by rw [e1, e1]; exact f1) (by rw [e1, e1]; exact f2) h

end Go.Am
