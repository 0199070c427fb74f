/- Operations whose outcome is the same in every world, and that leave it as it is; and regions that draw their order. Conditions: as each theorem lists them. -/
import Derived.Test.YtninmfobgjkekaaAm9
import Derived.Orders
set_option linter.unusedSimpArgs false
set_option linter.unusedVariables false
namespace Go.Am
open Go Go.RowKit

variable {P : Program} {G : Nat} {w0 w : World} {c : Ctx} {g : Gh} {S S' : St} {a ac : Act} {o : Oper} {v : Value}

/-- In every world the operation gives a value that v stands for, and the world stays. -/
def Still (P : Program) (c : Ctx) (ac : Act) (o : Oper) (v : Value) : Prop := ∃ u, VR c v u ∧ ∀ w : World, (execOp ac.eval o).run P w = .ok (.value u) w

theorem still_value {u : Value} {s : Sem Value} (he : execOp ac.eval o = (do pure (.value (← s)))) (hr : ∀ w : World, s.run P w = .ok u w) (hv : VR c v u) : Still P c ac o v :=
  ⟨u, hv, fun w => by rw [he]; simp [hr w]⟩

theorem move_still (h : Pre G w0 c g S w a ac o) (x : Operand) (ho : o.op = .move x ∨ o.op = .assign x) : Still P c ac o (a.eval x) := by
  have hv : VR c (a.eval x) (ac.eval x) := h.ev (by rcases ho with e | e <;> simp [e, Op.operands])
  refine ⟨ac.eval x, hv, fun w => ?_⟩
  rcases ho with e | e <;> simp [execOp, e]

theorem evPure_still (h : Pre G w0 c g S w a ac o) (he : evPure P a o = some v) : Still P c ac o v := by
  unfold evPure at he
  split at he
  · rename_i haf
    have hsel : ∀ cs b, o.op ≠ .select cs b := fun cs b e => by rw [e] at he; cases he
    have hop : ∀ x ∈ o.op.operands, ac.eval x = a.eval x := fun x hx => by
      have ho := h.opnd
      rw [List.all_eq_true] at ho haf
      have hm : x ∈ o.op.operands.toList := Array.mem_toList_iff.2 hx
      exact af_eq 8 _ _ (haf x hm) (eval_rel h.rel h.act (ho x hm))
    have key : ∀ (r : Option Value), (match pureRun P (execOp a.eval o) with
      | some (.value v) => if af 8 v = true then some v else none
      | _ => none) = some v → Still P c ac o v := fun _ hk => by
      split at hk
      · rename_i v' hv'
        split at hk
        · rename_i hav
          cases hk
          exact ⟨v, af_refl c 8 v hav, fun w => by rw [execOp_congr o hsel hop]; exact pureRun_run _ _ hv' w⟩
        · cases hk
      · cases hk
    split at he
    · cases he
    · exact key none he
  · cases he

theorem slice_still (h : Pre G w0 c g S w a ac o) (t : TypeId) (x : Operand) (lo hi mx : Option Operand) (ho : o.op = .slice t x lo hi mx) (hv : sliceA P S t (a.eval x) (lo.map a.eval) (hi.map a.eval) (mx.map a.eval) = some v) : Still P c ac o v := by
  have hc := h.ev (x := x) (by simp [ho, Op.operands])
  have hlo : ∀ y, lo = some y → VR c (a.eval y) (ac.eval y) := fun y e => h.ev (by simp [ho, Op.operands, e])
  have hhi : ∀ y, hi = some y → VR c (a.eval y) (ac.eval y) := fun y e => h.ev (by simp [ho, Op.operands, e])
  have hmx : ∀ y, mx = some y → VR c (a.eval y) (ac.eval y) := fun y e => h.ev (by simp [ho, Op.operands, e])
  unfold sliceA at hv
  split at hv
  · rename_i e b off n k hu hx
    split at hv
    · rename_i i kb l h' m hi' hkb hbl hbh hbm
      split at hv
      · rename_i hcnd
        obtain ⟨hsz, h1, h2, h3, hf⟩ := hcnd
        cases hv
        rw [hx] at hc
        obtain ⟨f, cur, e', fr, ok⟩ := h.rel.blk b kb hkb
        have hes : c.es b = i.size := ok.es.trans hsz
        generalize hux : ac.eval x = ux at hc
        generalize hfix : (mx.map a.eval).isSome = fixed at hf
        have hfix2 : (mx.map a.eval).isSome = true → (hi.map a.eval).isSome = true := fun e => hf (by rw [← hfix]; exact e)
        cases hc with
        | slice _ _ _ _ cap hbn hn hk hcap =>
          have hb := fun w : World => bounds_run (P := P) (cap := cap) hbl hbh hbm h1 h2 h3 hn hfix2 w
          simp only [hfix] at hb
          rw [hes] at hcap
          have hrun : ∀ w : World, (Instr.sliceAt t (ac.eval x) (lo.map ac.eval) (hi.map ac.eval) (mx.map ac.eval)).run P w =
              .ok (.slice (if (if fixed = true then m else cap) = l then some ⟨(c.loc b).1, (c.loc b).2 + off, none⟩ else some ⟨(c.loc b).1, (c.loc b).2 + off + l * i.size, none⟩) (h' - l) ((if fixed = true then m else cap) - l)) w := by
            intro w
            rw [bound_rel hlo hbl, bound_rel hhi hbh, bound_rel hmx hbm, hux]
            simp only [Instr.sliceAt, Sem.run_bind, run_underlying hu, Result.andThen_ok, Instr.slice, hb, run_sizeOf hi', Sem.run_pure, Option.map_some, Addr.add_lit]
          obtain ⟨M, hM⟩ : ∃ M, (if fixed = true then m else cap) = M := ⟨_, rfl⟩
          simp only [hM] at hrun
          have hMc : M ≤ cap := by rw [← hM]; split <;> omega
          have hMh : h' ≤ M := by rw [← hM]; split <;> omega
          by_cases hMl : M = l
          · simp only [if_pos hMl] at hrun
            have e1 : h' - l = 0 := by omega
            have e2 : M - l = 0 := by omega
            simp only [e1, e2] at hrun
            rw [e1]
            refine still_value (by simp only [execOp, ho]) hrun (.empty b _ _ _ hbn ?_)
            split
            · rename_i ef; rw [if_pos ef] at hM; right; omega
            · rename_i ef
              rw [if_neg ef] at hM
              rcases hk with hk | hk
              · left; rw [if_pos hk]
              · right; rw [if_neg (by omega)]; omega
          · simp only [if_neg hMl] at hrun
            have hmul : l * i.size + (M - l) * i.size = M * i.size := by rw [← Nat.add_mul]; congr 1; omega
            have hmul2 : M * i.size ≤ cap * i.size := Nat.mul_le_mul_right _ hMc
            have hvr := VR.slice (c := c) b (off + l * i.size) (h' - l) (if fixed = true then m - l + 1 else if k = 0 then 0 else k - l) (M - l) hbn (by omega) (by
              split
              · rename_i ef; rw [if_pos ef] at hM; right; omega
              · rename_i ef
                rw [if_neg ef] at hM
                rcases hk with hk | hk
                · left; rw [if_pos hk]
                · right; rw [if_neg (by omega)]; omega) (by rw [hes]; omega)
            rw [← Nat.add_assoc] at hvr
            exact still_value (by simp only [execOp, ho]) hrun hvr
        | empty _ _ _ ad hbn hk =>
          have hb := fun w : World => bounds_run (P := P) (cap := 0) hbl hbh hbm h1 h2 h3 (Nat.le_refl _) hfix2 w
          simp only [hfix] at hb
          have el : l = 0 := by omega
          have eh : h' = 0 := by omega
          have em : m = 0 := by omega
          subst el; subst eh; subst em
          have e0 : (if fixed = true then 0 else 0) = 0 := by split <;> rfl
          simp only [e0] at hb
          refine still_value (s := Instr.sliceAt t (ac.eval x) (lo.map ac.eval) (hi.map ac.eval) (mx.map ac.eval)) (u := .slice (some ad) 0 0) (by simp only [execOp, ho]) (fun w => ?_) (.empty b _ _ _ hbn ?_)
          · rw [bound_rel hlo hbl, bound_rel hhi hbh, bound_rel hmx hbm, hux]
            simp [Instr.sliceAt, run_underlying hu, Instr.slice, hb, run_sizeOf hi']
          · split
            · right; rfl
            · split
              · left; rfl
              · omega
      · cases hv
    · cases hv
  · rename_i e hu hx
    split at hv
    · rename_i i hi' hbl hbh hbm
      split at hv
      · rename_i hfix2
        cases hv
        rw [hx] at hc
        generalize hux : ac.eval x = ux at hc
        cases hc with
        | slice0 =>
          have hb := fun w : World => bounds_run (P := P) (cap := 0) hbl hbh hbm (Nat.le_refl _) (Nat.le_refl _) (Nat.le_refl _) (Nat.le_refl _) hfix2 w
          simp only [ite_self] at hb
          refine still_value (s := Instr.sliceAt t (ac.eval x) (lo.map ac.eval) (hi.map ac.eval) (mx.map ac.eval)) (u := .slice none 0 0) (by simp only [execOp, ho]) (fun w => ?_) (by rw [hx]; exact .slice0)
          rw [bound_rel hlo hbl, bound_rel hhi hbh, bound_rel hmx hbm, hux]
          simp [Instr.sliceAt, run_underlying hu, Instr.slice, hb, run_sizeOf hi']
      · cases hv
    · cases hv
  · cases hv

theorem builtin_still {b : Builtin} {args : Array Operand} {ts : Array TypeId} (ho : o.op = .call { callee := .builtin b, args := args, argTypes := ts }) {s : Sem Value} {u : Value}
    (hs : ∀ cs : Array Bool, builtin b ts o.type cs (args.map ac.eval) = (do pure (.value (← s)))) (hr : ∀ w : World, s.run P w = .ok u w) (hv : VR c v u) : Still P c ac o v := by
  refine still_value (s := s) ?_ hr hv
  simp only [execOp, ho, resolve, invoke]
  exact hs _

theorem pick_still (h : Pre G w0 c g S w a ac o) (cc x y : Operand) (ho : o.op = .pick cc x y) (b : Bool) (hb : a.eval cc = .bool b) : Still P c ac o (cond b (a.eval x) (a.eval y)) := by
  have hc := h.ev (x := cc) (by simp [ho, Op.operands])
  have hx := h.ev (x := x) (by simp [ho, Op.operands])
  have hy := h.ev (x := y) (by simp [ho, Op.operands])
  rw [hb] at hc
  refine ⟨(cond b (ac.eval x) (ac.eval y)), ?_, fun w => ?_⟩
  · cases b
    · exact hy
    · exact hx
  · cases b <;> simp [execOp, ho, hc.bool_inv, asBool]

theorem extract_still (h : Pre G w0 c g S w a ac o) (x : Operand) (i : Nat) (ho : o.op = .extract x i) (vs : Array Value) (hx : a.eval x = .tuple vs) (hv : vs[i]? = some v) : Still P c ac o v := by
  have hc := h.ev (x := x) (by simp [ho, Op.operands])
  rw [hx] at hc
  generalize hu : ac.eval x = u at hc
  cases hc with
  | tuple _ ys hl hh =>
    have hi : i < ys.size := by rw [← hl]; exact (Array.getElem?_eq_some_iff.1 hv).1
    refine ⟨ys[i], hh i v _ hv (Array.getElem?_eq_getElem hi), fun w => ?_⟩
    simp [execOp, ho, hu, Instr.extract, hi]

theorem indexAddr_still (h : Pre G w0 c g S w a ac o) (t : TypeId) (x y : Operand) (ho : o.op = .indexAddr t x y) (k : IntKind) (i : Int) (hy : a.eval y = .int k i) (hv : ixA P t (a.eval x) i = some v) : Still P c ac o v := by
  have hc := h.ev (x := x) (by simp [ho, Op.operands])
  have hcy := h.ev (x := y) (by simp [ho, Op.operands])
  rw [hy] at hcy
  have hiy := hcy.int_inv
  unfold ixA at hv
  split at hv
  · rename_i len e b off hu hx
    split at hv
    · rename_i j hj
      split at hv
      · rename_i hb
        cases hv
        rw [hx] at hc
        generalize hux : ac.eval x = ux at hc
        cases hc with
        | ptr _ _ hbn =>
          refine still_value (s := Instr.indexAt t (ac.eval x) (ac.eval y)) (u := .pointer (some ⟨(c.loc b).1, (c.loc b).2 + off + i.toNat * j.size, none⟩)) (by simp only [execOp, ho]) (fun w => ?_) (by rw [Nat.add_assoc]; exact .ptr b _ hbn)
          simp [hux, hiy, Instr.indexAt, asIntOf, run_underlying hu, Instr.sureAddr, hb, run_sizeOf hj, Addr.add_lit]
      · cases hv
    · cases hv
  · rename_i e b off n k' hu hx
    split at hv
    · rename_i j hj
      split at hv
      · rename_i hb
        cases hv
        rw [hx] at hc
        generalize hux : ac.eval x = ux at hc
        cases hc with
        | slice _ _ _ _ m hbn hn hk hcap =>
          refine still_value (s := Instr.indexAt t (ac.eval x) (ac.eval y)) (u := .pointer (some ⟨(c.loc b).1, (c.loc b).2 + off + i.toNat * j.size, none⟩)) (by simp only [execOp, ho]) (fun w => ?_) (by rw [Nat.add_assoc]; exact .ptr b _ hbn)
          simp [hux, hiy, Instr.indexAt, asIntOf, run_underlying hu, hb, run_sizeOf hj, Addr.add_lit]
        | empty => omega
      · cases hv
    · cases hv
  · cases hv

theorem fieldAddr_still (h : Pre G w0 c g S w a ac o) (t : TypeId) (x : Operand) (f : Nat) (ho : o.op = .fieldAddr t x f) (fs : Array Field) (hu : P.underlying t = some (.struct fs)) (fd : Field) (hf : fs[f]? = some fd) (j : TypeInfo) (hj : P.info? fd.type = some j) (hsz : j.size ≠ 0)
    (b off : Nat) (hx : a.eval x = .pointer (some ⟨b, off, none⟩)) : Still P c ac o (.pointer (some ⟨b, off + fd.offset, none⟩)) := by
  have hc := h.ev (x := x) (by simp [ho, Op.operands])
  rw [hx] at hc
  generalize hux : ac.eval x = ux at hc
  cases hc with
  | ptr _ _ hbn =>
    refine still_value (s := Instr.fieldAt t (ac.eval x) f) (u := .pointer (some ⟨(c.loc b).1, (c.loc b).2 + off + fd.offset, none⟩)) (by simp only [execOp, ho]) (fun w => ?_) (by rw [Nat.add_assoc]; exact .ptr b _ hbn)
    simp [hux, Instr.fieldAt, run_underlying hu, hf, Instr.sureAddr, fieldPlace, run_sizeOf hj, hsz, Addr.add_lit]

theorem nilCheck_still (h : Pre G w0 c g S w a ac o) (x : Operand) (ho : o.op = .nilCheck x) (ad : Addr) (hx : a.eval x = .pointer (some ad)) : Still P c ac o (.pointer (some ad)) := by
  have hc := h.ev (x := x) (by simp [ho, Op.operands])
  rw [hx] at hc
  generalize hux : ac.eval x = ux at hc
  cases hc with
  | ptr b off hbn =>
    refine ⟨_, .ptr b off hbn, fun w => ?_⟩
    simp [execOp, ho, hux]

theorem field_still (h : Pre G w0 c g S w a ac o) (t : TypeId) (x : Operand) (f : Nat) (ho : o.op = .field t x f) (fs : Array Field) (hu : P.underlying t = some (.struct fs)) (fd : Field) (hf : fs[f]? = some fd) (cs : Array Value) (hx : a.eval x = .agg cs)
    (hv : partA P fd.type cs fd.offset = some v) : Still P c ac o v := by
  have hc := h.ev (x := x) (by simp [ho, Op.operands])
  rw [hx] at hc
  generalize hux : ac.eval x = ux at hc
  cases hc with
  | agg _ ys hl hh =>
    obtain ⟨u, hr, hvr⟩ := partA_run hl hh hv
    refine still_value (s := Instr.field t (ac.eval x) f) (u := u) (by simp only [execOp, ho]) (fun w => ?_) hvr
    simp [hux, Instr.field, run_underlying hu, hf, asAgg, hr]

theorem index_still (h : Pre G w0 c g S w a ac o) (t : TypeId) (x y : Operand) (ho : o.op = .index t x y) (len : Nat) (e : TypeId) (hu : P.underlying t = some (.array len e)) (j : TypeInfo) (hj : P.info? e = some j) (cs : Array Value) (hx : a.eval x = .agg cs)
    (k : IntKind) (i : Int) (hy : a.eval y = .int k i) (hi : 0 ≤ i ∧ i < len) (hv : partA P e cs (i.toNat * j.size) = some v) : Still P c ac o v := by
  have hc := h.ev (x := x) (by simp [ho, Op.operands])
  have hcy := h.ev (x := y) (by simp [ho, Op.operands])
  rw [hy] at hcy
  have hiy := hcy.int_inv
  rw [hx] at hc
  generalize hux : ac.eval x = ux at hc
  cases hc with
  | agg _ ys hl hh =>
    obtain ⟨u, hr, hvr⟩ := partA_run hl hh hv
    refine still_value (s := Instr.index t (ac.eval x) (ac.eval y)) (u := u) (by simp only [execOp, ho]) (fun w => ?_) hvr
    simp [hux, hiy, Instr.index, asIntOf, run_underlying hu, hi, run_sizeOf hj, hr]

theorem build_still (h : Pre G w0 c g S w a ac o) (t : TypeId) (parts : Array (Nat × Operand)) (ho : o.op = .build t parts) (hv : buildA P t (parts.map fun (i, x) => (i, a.eval x)) = some v) : Still P c ac o v := by
  obtain ⟨hpl, hpv⟩ := parts_rel h parts (fun p hp => by simp only [ho, Op.operands]; simp; exact ⟨p.1, hp⟩)
  unfold buildA at hv
  have zr : ∀ z : Value, af 8 z = true → z.cells.size = z.cells.size ∧ ∀ (i : Nat) (x y : Value), z.cells[i]? = some x → z.cells[i]? = some y → VR c x y := fun z hz => (af_refl c 8 z hz).cells
  split at hv
  · rename_i i fs hi hu
    split at hv
    · rename_i z hz
      split at hv
      · rename_i haf
        split at hv
        · rename_i places hpp
          rw [Option.map_eq_some_iff] at hv
          obtain ⟨out, hout, rfl⟩ := hv
          obtain ⟨out', hout', hs, hh⟩ := fill_rel (places[·]?) _ _ _ _ _ hpl hpv (zr z haf).1 (zr z haf).2 hout
          refine still_value (s := Instr.build t (parts.map fun (i, x) => (i, ac.eval x))) (u := .agg out') (by simp only [execOp, ho]) (fun w => ?_) (.agg _ _ hs hh)
          simp only [Instr.build, zeroValue, typeInfo, program, hi, hz, Sem.run_bind, Sem.run, Result.andThen_ok, Sem.run_pure, run_underlying hu, run_places hpp, hout']
        · cases hv
      · cases hv
    · cases hv
  · rename_i i e n hi hu
    split at hv
    · rename_i z j hz hj
      split at hv
      · rename_i haf
        rw [Option.map_eq_some_iff] at hv
        obtain ⟨out, hout, rfl⟩ := hv
        obtain ⟨out', hout', hs, hh⟩ := fill_rel (fun i => some (i * j.size, j.size)) _ _ _ _ _ hpl hpv (zr z haf).1 (zr z haf).2 hout
        refine still_value (s := Instr.build t (parts.map fun (i, x) => (i, ac.eval x))) (u := .agg out') (by simp only [execOp, ho]) (fun w => ?_) (.agg _ _ hs hh)
        simp only [Instr.build, zeroValue, typeInfo, program, hi, hz, Sem.run_bind, Sem.run, Result.andThen_ok, Sem.run_pure, run_underlying hu, run_sizeOf hj, hout']
      · cases hv
    · cases hv
  · cases hv

theorem len_still (h : Pre G w0 c g S w a ac o) (x : Operand) (t : TypeId) (ho : o.op = .call { callee := .builtin .len, args := #[x], argTypes := #[t] }) (hv : lenA P t (a.eval x) = some v) : Still P c ac o v := by
  have hc := arg_ev h ho (x := x) (by simp)
  refine builtin_still ho (s := Builtin.len_ #[t] o.type #[ac.eval x]) (u := v) (fun cs => by simp [builtin]) (fun w => ?_) ?_
  · unfold lenA at hv
    split at hv
    · rename_i e ad n k hu hx
      cases hv
      rw [hx] at hc
      generalize ac.eval x = ux at hc
      cases hc <;> simp [Builtin.len_, run_underlying hu]
    · rename_i n e hu
      cases hv
      simp [Builtin.len_, run_underlying hu]
    · rename_i e hu
      split at hv
      · rename_i n e' hu'
        cases hv
        simp [Builtin.len_, run_underlying hu, run_underlying hu']
      · cases hv
    · cases hv
  · unfold lenA at hv
    split at hv
    · cases hv; exact .int _ _
    · cases hv; exact .int _ _
    · split at hv
      · cases hv; exact .int _ _
      · cases hv
    · cases hv

theorem cap_still (h : Pre G w0 c g S w a ac o) (x : Operand) (t : TypeId) (ho : o.op = .call { callee := .builtin .cap, args := #[x], argTypes := #[t] }) (hv : capA P t (a.eval x) = some v) : Still P c ac o v := by
  have hc := arg_ev h ho (x := x) (by simp)
  unfold capA at hv
  split at hv
  · rename_i e hu hx
    cases hv
    rw [hx] at hc
    generalize hux : ac.eval x = ux at hc
    cases hc
    exact builtin_still ho (s := Builtin.cap_ #[t] o.type #[ac.eval x]) (u := goInt 0) (fun cs => by simp [builtin]) (fun w => by simp [hux, Builtin.cap_, run_underlying hu]) (.int _ _)
  · rename_i e ad n k _ hu hx
    split at hv
    · cases hv
    · rename_i hk0
      cases hv
      rw [hx] at hc
      generalize hux : ac.eval x = ux at hc
      cases hc with
      | slice0 => exact absurd rfl hk0
      | slice _ _ _ _ m hbn hn hk hcap =>
        have : k - 1 = m := by omega
        subst this
        exact builtin_still ho (s := Builtin.cap_ #[t] o.type #[ac.eval x]) (u := goInt ((k - 1 : Nat) : Int)) (fun cs => by simp [builtin]) (fun w => by simp [hux, Builtin.cap_, run_underlying hu]) (.int _ _)
      | empty _ _ _ ad hbn hk =>
        have : k - 1 = 0 := by omega
        rw [this]
        exact builtin_still ho (s := Builtin.cap_ #[t] o.type #[ac.eval x]) (u := goInt ((0 : Nat) : Int)) (fun cs => by simp [builtin]) (fun w => by simp [hux, Builtin.cap_, run_underlying hu]) (.int _ _)
  · cases hv

theorem nil_still (h : Pre G w0 c g S w a ac o) (op : BinOp) (t : TypeId) (x y : Operand) (yt : TypeId) (ho : o.op = .binOp op t x y yt) (hop : op = .eql ∨ op = .neq) (b : Bool) (hv : nilA P t (a.eval x) (a.eval y) = some b) :
    Still P c ac o (.bool (if op = .eql then b else !b)) := by
  have hx := h.ev (x := x) (by simp [ho, Op.operands])
  have hy := h.ev (x := y) (by simp [ho, Op.operands])
  have h1 := fun w : World => (nilA_run (P := P) hx hy hv w).1
  have h2 := fun w : World => (nilA_run (P := P) hx hy hv w).2
  refine still_value (s := do eqGuard op t x y (ac.eval x) (ac.eval y); binOp op t (ac.eval x) (ac.eval y)) (u := .bool (if op = .eql then b else !b)) (by simp only [execOp, ho]) (fun w => ?_) (.bool _)
  rw [Sem.run_bind, h2 w]
  simp only [Result.andThen_ok]
  have hform : ∀ u u' : Value, VR c (a.eval x) u → VR c (a.eval y) u' → (binOp .eql t u u' = do pure (.bool (← Op.equal t u u'))) ∧ (binOp .neq t u u' = do pure (.bool (!(← Op.equal t u u')))) := fun u u' e1 e2 => by
    unfold nilA at hv
    split at hv
    · rename_i q1 q2; rw [q1] at e1; rw [q2] at e2; cases e1; cases e2 <;> exact ⟨rfl, rfl⟩
    · rename_i q1 q2; rw [q1] at e1; rw [q2] at e2; cases e2; cases e1 <;> exact ⟨rfl, rfl⟩
    · rename_i q1 q2; rw [q1] at e1; rw [q2] at e2; cases e1; cases e2 <;> exact ⟨rfl, rfl⟩
    · rename_i q1 q2; rw [q1] at e1; rw [q2] at e2; cases e2; cases e1 <;> exact ⟨rfl, rfl⟩
    · cases hv
  obtain ⟨f1, f2⟩ := hform _ _ hx hy
  rcases hop with rfl | rfl
  · rw [f1]; simp [h1 w]
  · rw [f2]; simp [h1 w]

/-- What a still operation gives. -/
def evStill (P : Program) (a : Act) (o : Oper) (S : St) : Option Value :=
  match o.op with
  | .move x | .assign x => some (a.eval x)
  | .pick cc x y => match a.eval cc with
    | .bool b => some (cond b (a.eval x) (a.eval y))
    | _ => none
  | .extract x i => match a.eval x with
    | .tuple vs => vs[i]?
    | _ => none
  | .build t parts => buildA P t (parts.map fun (i, x) => (i, a.eval x))
  | .slice t x lo hi mx => match a.eval x with
    | .slice _ _ _ => sliceA P S t (a.eval x) (lo.map a.eval) (hi.map a.eval) (mx.map a.eval)
    | _ => evPure P a o
  | .fieldAddr t x f => match P.underlying t, a.eval x with
    | some (.struct fs), .pointer (some ⟨b, off, none⟩) => match fs[f]? with
      | some fd => match P.info? fd.type with
        | some j => if j.size ≠ 0 then some (.pointer (some ⟨b, off + fd.offset, none⟩)) else none
        | none => none
      | none => none
    | _, _ => none
  | .indexAddr t x y => match a.eval y with
    | .int _ i => ixA P t (a.eval x) i
    | _ => none
  | .nilCheck x => match a.eval x with
    | .pointer (some ad) => some (.pointer (some ad))
    | _ => none
  | .field t x f => match P.underlying t, a.eval x with
    | some (.struct fs), .agg cs => match fs[f]? with
      | some fd => partA P fd.type cs fd.offset
      | none => none
    | _, _ => none
  | .index t x y => match P.underlying t, a.eval x, a.eval y with
    | some (.array len e), .agg cs, .int _ i => match P.info? e with
      | some j => if 0 ≤ i ∧ i < len then partA P e cs (i.toNat * j.size) else none
      | none => none
    | _, _, _ => evPure P a o
  | .binOp op t x y _ => match a.eval x, a.eval y with
    | .int _ _, _ => evPure P a o
    | _, _ => if op = .eql ∨ op = .neq then match nilA P t (a.eval x) (a.eval y) with
        | some b => some (.bool (if op = .eql then b else !b))
        | none => evPure P a o
      else evPure P a o
  | .call k => match k.callee, k.args.toList, k.argTypes.toList with
    | .builtin .len, [x], [t] => match lenA P t (a.eval x) with
      | some v => some v
      | none => evPure P a o
    | .builtin .cap, [x], [t] => capA P t (a.eval x)
    | .builtin .append, _, _ => none
    | .builtin _, _, _ => evPure P a o
    | _, _, _ => none
  | .makeFunc (.func f) first cap => some (.func (.func f) (first.map a.eval) (cap.map a.eval))
  | .load .. | .store .. | .box .. | .alloc .. | .buildSlice .. | .makeSlice .. => none
  | .convert .. | .unOp .. => evPure P a o
  | _ => none

theorem makeFunc_still (h : Pre G w0 c g S w a ac o) (f : FuncId) (first cap : Array Operand) (ho : o.op = .makeFunc (.func f) first cap) : Still P c ac o (.func (.func f) (first.map a.eval) (cap.map a.eval)) := by
  have key : ∀ (xs : Array Operand), (∀ x ∈ xs, x ∈ o.op.operands) → ∀ (i : Nat) (x y : Value), (xs.map a.eval)[i]? = some x → (xs.map ac.eval)[i]? = some y → VR c x y := fun xs hm i x y hx hy => by
    rw [Array.getElem?_map, Option.map_eq_some_iff] at hx hy
    obtain ⟨p, hp, rfl⟩ := hx
    obtain ⟨q, hq, rfl⟩ := hy
    obtain rfl : p = q := by rw [hp] at hq; simpa using hq
    exact h.ev (hm p (Array.mem_of_getElem? hp))
  refine ⟨.func (.func f) (first.map ac.eval) (cap.map ac.eval), .func _ _ _ _ _ (by simp) (key first fun x hx => ?_) (by simp) (key cap fun x hx => ?_), fun w => ?_⟩
  · rw [ho]; simp [Op.operands, hx]
  · rw [ho]; simp [Op.operands, hx]
  · simp [execOp, ho, Instr.makeFunc]

theorem evStill_ok (h : Pre G w0 c g S w a ac o) (hv : evStill P a o S = some v) : Still P c ac o v := by
  unfold evStill at hv
  split at hv
  · rename_i x ho; cases hv; exact move_still h x (.inl ho)
  · rename_i x ho; cases hv; exact move_still h x (.inr ho)
  · rename_i cc x y ho
    split at hv
    · rename_i b hb; cases hv; exact pick_still h cc x y ho b hb
    · cases hv
  · rename_i x i ho
    split at hv
    · rename_i vs hvs; exact extract_still h x i ho vs hvs hv
    · cases hv
  · rename_i t parts ho; exact build_still h t parts ho hv
  · rename_i t x lo hi mx ho
    split at hv
    · exact slice_still h t x lo hi mx ho hv
    · exact evPure_still h hv
  · rename_i t x f ho
    split at hv
    · rename_i fs b off hu hx
      split at hv
      · rename_i fd hf
        split at hv
        · rename_i j hj
          split at hv
          · rename_i hsz; cases hv; exact fieldAddr_still h t x f ho fs hu fd hf j hj hsz b off hx
          · cases hv
        · cases hv
      · cases hv
    · cases hv
  · rename_i t x y ho
    split at hv
    · rename_i k i hy; exact indexAddr_still h t x y ho k i hy hv
    · cases hv
  · rename_i x ho
    split at hv
    · rename_i ad hx; cases hv; exact nilCheck_still h x ho ad hx
    · cases hv
  · rename_i t x f ho
    split at hv
    · rename_i fs cs hu hx
      split at hv
      · rename_i fd hf; exact field_still h t x f ho fs hu fd hf cs hx hv
      · cases hv
    · cases hv
  · rename_i t x y ho
    split at hv
    · rename_i len e cs k i hu hx hy
      split at hv
      · rename_i j hj
        split at hv
        · rename_i hi; exact index_still h t x y ho len e hu j hj cs hx k i hy hi hv
        · cases hv
      · cases hv
    · exact evPure_still h hv
  · rename_i op t x y yt ho
    split at hv
    · exact evPure_still h hv
    · split at hv
      · rename_i hop
        split at hv
        · rename_i b hb; cases hv; exact nil_still h op t x y yt ho hop b hb
        · exact evPure_still h hv
      · exact evPure_still h hv
  · rename_i k ho
    have arr : ∀ {α : Type} (xs : Array α) (l : List α), xs.toList = l → xs = l.toArray := fun xs l e => by rw [← e]
    split at hv
    · rename_i x t hc hargs hts
      split at hv
      · rename_i v' hl
        cases hv
        exact len_still h x t (by rw [ho]; cases k; simp only at hc hargs hts; rw [hc, arr _ _ hargs, arr _ _ hts]) hl
      · exact evPure_still h hv
    · rename_i x t hc hargs hts
      exact cap_still h x t (by rw [ho]; cases k; simp only at hc hargs hts; rw [hc, arr _ _ hargs, arr _ _ hts]) hv
    · cases hv
    · exact evPure_still h hv
    · cases hv
  · rename_i f first cap ho; cases hv; exact makeFunc_still h f first cap ho
  · cases hv
  · cases hv
  · cases hv
  · cases hv
  · cases hv
  · cases hv
  · exact evPure_still h hv
  · exact evPure_still h hv
  · cases hv

end Go.Am
