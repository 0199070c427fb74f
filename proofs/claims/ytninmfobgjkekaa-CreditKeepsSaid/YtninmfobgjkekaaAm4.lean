/- Each kind of operation over the abstract memory, and that the model's operation does the same. Conditions: as each theorem lists them. -/
import Derived.Test.YtninmfobgjkekaaAm3
set_option linter.unusedSimpArgs false
set_option linter.unusedVariables false
namespace Go.Am
open Go Go.RowKit

variable {P : Program} {G : Nat} {w0 w : World} {c : Ctx} {g : Gh} {S S' : St} {a ac : Act} {o : Oper} {v : Value}

/-- What every rule has: the memories, the frames, operands that may be. -/
structure Pre (G : Nat) (w0 : World) (c : Ctx) (g : Gh) (S : St) (w : World) (a ac : Act) (o : Oper) : Prop where
  rel : Rel G w0 c g S w
  act : ActR c a ac
  opnd : o.op.operands.toList.all (okOpnd G) = true

theorem Pre.ev (h : Pre G w0 c g S w a ac o) {x : Operand} (hx : x ∈ o.op.operands) : VR c (a.eval x) (ac.eval x) :=
  eval_rel h.rel h.act (by have := h.opnd; rw [List.all_eq_true] at this; exact this x (Array.mem_toList_iff.2 hx))

theorem move_done (h : Pre G w0 c g S w a ac o) (x : Operand) (ho : o.op = .move x ∨ o.op = .assign x) : Done P G w0 ac o c w (a.eval x) S := by
  have hv : VR c (a.eval x) (ac.eval x) := h.ev (by rcases ho with e | e <;> simp [e, Op.operands])
  refine ⟨.value (ac.eval x), w, c, g, ?_, Ctx.le.refl _, h.rel, .inl ⟨_, rfl, hv⟩⟩
  rcases ho with e | e <;> simp [execOp, e]

theorem pick_done (h : Pre G w0 c g S w a ac o) (cc x y : Operand) (ho : o.op = .pick cc x y) (b : Bool) (hb : a.eval cc = .bool b) : Done P G w0 ac o c w (cond b (a.eval x) (a.eval y)) S := by
  have hc := h.ev (x := cc) (by simp [ho, Op.operands])
  have hx := h.ev (x := x) (by simp [ho, Op.operands])
  have hy := h.ev (x := y) (by simp [ho, Op.operands])
  rw [hb] at hc
  refine ⟨.value (cond b (ac.eval x) (ac.eval y)), w, c, g, ?_, Ctx.le.refl _, h.rel, .inl ⟨_, rfl, ?_⟩⟩
  · cases b <;> simp [execOp, ho, hc.bool_inv, asBool]
  · cases b
    · exact hy
    · exact hx

theorem extract_done (h : Pre G w0 c g S w a ac o) (x : Operand) (i : Nat) (ho : o.op = .extract x i) (vs : Array Value) (hx : a.eval x = .tuple vs) (hv : vs[i]? = some v) : Done P G w0 ac o c w v S := by
  have hc := h.ev (x := x) (by simp [ho, Op.operands])
  rw [hx] at hc
  generalize hu : ac.eval x = u at hc
  cases hc with
  | tuple _ ys hl hh =>
    have hi : i < ys.size := by rw [← hl]; exact (Array.getElem?_eq_some_iff.1 hv).1
    refine ⟨.value ys[i], w, c, g, ?_, Ctx.le.refl _, h.rel, .inl ⟨_, rfl, hh i v _ hv (Array.getElem?_eq_getElem hi)⟩⟩
    simp [execOp, ho, hu, Instr.extract, hi]

theorem load_done (h : Pre G w0 c g S w a ac o) (t : TypeId) (x : Operand) (ho : o.op = .load t x) (b off : Nat) (hx : a.eval x = .pointer (some ⟨b, off, none⟩)) (hv : ldA P S t b off = some v) : Done P G w0 ac o c w v S := by
  have hc := h.ev (x := x) (by simp [ho, Op.operands])
  rw [hx] at hc
  obtain ⟨hb, u, hr, hvr⟩ := ldA_run h.rel hv
  generalize hu : ac.eval x = ux at hc
  cases hc with
  | ptr _ _ hb =>
    refine done_value (s := Instr.loadAt t (ac.eval x)) (u := u) (by simp only [execOp, ho]) ?_ (Ctx.le.refl _) h.rel hvr
    simp [hu, Instr.loadAt, Instr.sureAddr, hr]

theorem store_done (h : Pre G w0 c g S w a ac o) (t : TypeId) (x y : Operand) (ho : o.op = .store t x y) (b off : Nat) (hx : a.eval x = .pointer (some ⟨b, off, none⟩)) (hv : stA P S t b off (a.eval y) = some S') :
    Done P G w0 ac o c w undef S' := by
  have hc := h.ev (x := x) (by simp [ho, Op.operands])
  have hy := h.ev (x := y) (by simp [ho, Op.operands])
  rw [hx] at hc
  obtain ⟨hb, w', hr, hR'⟩ := stA_run (P := P) h.rel hv hy
  generalize hu : ac.eval x = ux at hc
  cases hc with
  | ptr _ _ hb =>
    refine ⟨.skip, w', c, g, ?_, Ctx.le.refl _, hR', .inr ⟨rfl, rfl⟩⟩
    simp [execOp, ho, hu, Instr.storeAt, Instr.sureAddr, hr]

theorem box_done (h : Pre G w0 c g S w a ac o) (e : TypeId) (x : Operand) (ho : o.op = .box e x) (hv : boxA S (a.eval x) = some (v, S')) : Done P G w0 ac o c w v S' := by
  have hc := h.ev (x := x) (by simp [ho, Op.operands])
  obtain ⟨w', c', g', q, hr, hle, hR', hq⟩ := boxA_run (P := P) h.rel hv hc e
  exact done_value (s := Instr.box e (ac.eval x)) (by simp only [execOp, ho]) hr hle hR' hq

theorem alloc_done (h : Pre G w0 c g S w a ac o) (e : TypeId) (ho : o.op = .alloc e) (i : TypeInfo) (hi : P.info? e = some i) (z : Value) (hz : i.zero = some z) (haf : af 8 z = true) (hv : boxA S z = some (v, S')) : Done P G w0 ac o c w v S' := by
  obtain ⟨w', c', g', q, hr, hle, hR', hq⟩ := boxA_run (P := P) h.rel hv (af_refl c 8 z haf) e
  refine done_value (s := Instr.alloc e true (.tuple #[])) (by simp only [execOp, ho]) ?_ hle hR' hq
  simp only [Instr.alloc, Sem.run_bind, zeroValue, typeInfo, program, hi, hz]
  simpa [Sem.run, Instr.box, hi, hz] using hr

/-- The address of an element. -/
def ixA (P : Program) (t : TypeId) (x : Value) (i : Int) : Option Value :=
  match P.underlying t, x with
  | some (.array len e), .pointer (some ⟨b, off, none⟩) => match P.info? e with
    | some j => if 0 ≤ i ∧ i < len then some (.pointer (some ⟨b, off + i.toNat * j.size, none⟩)) else none
    | none => none
  | some (.slice e), .slice (some ⟨b, off, none⟩) n _ => match P.info? e with
    | some j => if 0 ≤ i ∧ i < n then some (.pointer (some ⟨b, off + i.toNat * j.size, none⟩)) else none
    | none => none
  | _, _ => none

theorem indexAddr_done (h : Pre G w0 c g S w a ac o) (t : TypeId) (x y : Operand) (ho : o.op = .indexAddr t x y) (k : IntKind) (i : Int) (hy : a.eval y = .int k i) (hv : ixA P t (a.eval x) i = some v) : Done P G w0 ac o c w v S := by
  have hc := h.ev (x := x) (by simp [ho, Op.operands])
  have hcy := h.ev (x := y) (by simp [ho, Op.operands])
  rw [hy] at hcy
  have hiy := hcy.int_inv
  unfold ixA at hv
  split at hv
  · rename_i len e b off hu hx
    split at hv
    · rename_i j hj
      split at hv
      · rename_i hb
        cases hv
        rw [hx] at hc
        generalize hux : ac.eval x = ux at hc
        cases hc with
        | ptr _ _ hbn =>
          refine done_value (s := Instr.indexAt t (ac.eval x) (ac.eval y)) (u := .pointer (some ⟨(c.loc b).1, (c.loc b).2 + off + i.toNat * j.size, none⟩)) (by simp only [execOp, ho]) ?_ (Ctx.le.refl _) h.rel (by rw [Nat.add_assoc]; exact .ptr b _ hbn)
          simp [hux, hiy, Instr.indexAt, asIntOf, run_underlying hu, Instr.sureAddr, hb, run_sizeOf hj, Addr.add_lit]
      · cases hv
    · cases hv
  · rename_i e b off n k' hu hx
    split at hv
    · rename_i j hj
      split at hv
      · rename_i hb
        cases hv
        rw [hx] at hc
        generalize hux : ac.eval x = ux at hc
        cases hc with
        | slice _ _ _ _ m hbn hn hk hcap =>
          refine done_value (s := Instr.indexAt t (ac.eval x) (ac.eval y)) (u := .pointer (some ⟨(c.loc b).1, (c.loc b).2 + off + i.toNat * j.size, none⟩)) (by simp only [execOp, ho]) ?_ (Ctx.le.refl _) h.rel (by rw [Nat.add_assoc]; exact .ptr b _ hbn)
          simp [hux, hiy, Instr.indexAt, asIntOf, run_underlying hu, hb, run_sizeOf hj, Addr.add_lit]
        | empty => omega
      · cases hv
    · cases hv
  · cases hv

theorem fieldAddr_done (h : Pre G w0 c g S w a ac o) (t : TypeId) (x : Operand) (f : Nat) (ho : o.op = .fieldAddr t x f) (fs : Array Field) (hu : P.underlying t = some (.struct fs)) (fd : Field) (hf : fs[f]? = some fd) (j : TypeInfo) (hj : P.info? fd.type = some j) (hsz : j.size ≠ 0)
    (b off : Nat) (hx : a.eval x = .pointer (some ⟨b, off, none⟩)) : Done P G w0 ac o c w (.pointer (some ⟨b, off + fd.offset, none⟩)) S := by
  have hc := h.ev (x := x) (by simp [ho, Op.operands])
  rw [hx] at hc
  generalize hux : ac.eval x = ux at hc
  cases hc with
  | ptr _ _ hbn =>
    refine done_value (s := Instr.fieldAt t (ac.eval x) f) (u := .pointer (some ⟨(c.loc b).1, (c.loc b).2 + off + fd.offset, none⟩)) (by simp only [execOp, ho]) ?_ (Ctx.le.refl _) h.rel (by rw [Nat.add_assoc]; exact .ptr b _ hbn)
    simp [hux, Instr.fieldAt, run_underlying hu, hf, Instr.sureAddr, fieldPlace, run_sizeOf hj, hsz, Addr.add_lit]

theorem nilCheck_done (h : Pre G w0 c g S w a ac o) (x : Operand) (ho : o.op = .nilCheck x) (ad : Addr) (hx : a.eval x = .pointer (some ad)) : Done P G w0 ac o c w (.pointer (some ad)) S := by
  have hc := h.ev (x := x) (by simp [ho, Op.operands])
  rw [hx] at hc
  generalize hux : ac.eval x = ux at hc
  cases hc with
  | ptr b off hbn =>
    refine ⟨.value _, w, c, g, ?_, Ctx.le.refl _, h.rel, .inl ⟨_, rfl, .ptr b off hbn⟩⟩
    simp [execOp, ho, hux]

/-- A part of a struct's or an array's cells. -/
def partA (P : Program) (t : TypeId) (cs : Array Value) (off : Nat) : Option Value :=
  match isAggA P t, P.info? t with
  | some true, some i => some (.agg (cs.extract off (off + i.size)))
  | some false, some _ => cs[off]?
  | _, _ => none

theorem partA_run {t : TypeId} {xs ys : Array Value} {off : Nat} {v : Value} (hl : xs.size = ys.size) (hh : ∀ (i : Nat) (x y : Value), xs[i]? = some x → ys[i]? = some y → VR c x y) (h : partA P t xs off = some v) :
    ∃ u, (∀ w, (part t ys off).run P w = .ok u w) ∧ VR c v u := by
  unfold partA at h
  split at h
  · rename_i i ha hi
    cases h
    refine ⟨.agg (ys.extract off (off + i.size)), fun w => by simp [part, run_isAgg ha, run_sizeOf hi], .agg _ _ (by simp [hl]) fun j x y hx hy => ?_⟩
    rw [Array.getElem?_extract] at hx hy
    rw [hl] at hx
    split at hx
    · rename_i hj; rw [if_pos hj] at hy; exact hh _ _ _ hx hy
    · cases hx
  · rename_i i ha hi
    have hoff : off < ys.size := by rw [← hl]; exact (Array.getElem?_eq_some_iff.1 h).1
    exact ⟨ys[off], fun w => by simp [part, run_isAgg ha, hoff], hh off v _ h (Array.getElem?_eq_getElem hoff)⟩
  · cases h

theorem field_done (h : Pre G w0 c g S w a ac o) (t : TypeId) (x : Operand) (f : Nat) (ho : o.op = .field t x f) (fs : Array Field) (hu : P.underlying t = some (.struct fs)) (fd : Field) (hf : fs[f]? = some fd) (cs : Array Value) (hx : a.eval x = .agg cs)
    (hv : partA P fd.type cs fd.offset = some v) : Done P G w0 ac o c w v S := by
  have hc := h.ev (x := x) (by simp [ho, Op.operands])
  rw [hx] at hc
  generalize hux : ac.eval x = ux at hc
  cases hc with
  | agg _ ys hl hh =>
    obtain ⟨u, hr, hvr⟩ := partA_run hl hh hv
    refine done_value (s := Instr.field t (ac.eval x) f) (u := u) (by simp only [execOp, ho]) ?_ (Ctx.le.refl _) h.rel hvr
    simp [hux, Instr.field, run_underlying hu, hf, asAgg, hr]

theorem index_done (h : Pre G w0 c g S w a ac o) (t : TypeId) (x y : Operand) (ho : o.op = .index t x y) (len : Nat) (e : TypeId) (hu : P.underlying t = some (.array len e)) (j : TypeInfo) (hj : P.info? e = some j) (cs : Array Value) (hx : a.eval x = .agg cs)
    (k : IntKind) (i : Int) (hy : a.eval y = .int k i) (hi : 0 ≤ i ∧ i < len) (hv : partA P e cs (i.toNat * j.size) = some v) : Done P G w0 ac o c w v S := by
  have hc := h.ev (x := x) (by simp [ho, Op.operands])
  have hcy := h.ev (x := y) (by simp [ho, Op.operands])
  rw [hy] at hcy
  have hiy := hcy.int_inv
  rw [hx] at hc
  generalize hux : ac.eval x = ux at hc
  cases hc with
  | agg _ ys hl hh =>
    obtain ⟨u, hr, hvr⟩ := partA_run hl hh hv
    refine done_value (s := Instr.index t (ac.eval x) (ac.eval y)) (u := u) (by simp only [execOp, ho]) ?_ (Ctx.le.refl _) h.rel hvr
    simp [hux, hiy, Instr.index, asIntOf, run_underlying hu, hi, run_sizeOf hj, hr]

end Go.Am
