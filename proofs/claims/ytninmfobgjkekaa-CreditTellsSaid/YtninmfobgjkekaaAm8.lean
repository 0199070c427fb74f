/- Bytes as a string, a comparison with nil; one operation, a function's code, a call, evaluated; and that the model does the same. Conditions: as each theorem lists them. -/
import Derived.Test.YtninmfobgjkekaaAm7
set_option linter.unusedSimpArgs false
set_option linter.unusedVariables false
namespace Go.Am
open Go Go.RowKit

variable {P : Program} {G : Nat} {w0 w : World} {c : Ctx} {g : Gh} {S S' : St} {a ac : Act} {o : Oper} {v : Value}

def byteOf : Value → Option UInt8
  | .int .u8 n => some (UInt8.ofNat n.toNat)
  | _ => none

def bytesOf : List Value → Option (List UInt8)
  | [] => some []
  | x :: r => match byteOf x, bytesOf r with
    | some b, some l => some (b :: l)
    | _, _ => none

/-- string(b). -/
def strA (P : Program) (S : St) (s d : TypeId) (x : Value) : Option Value :=
  match P.underlying s, P.underlying d, x with
  | some (.slice e), some .string, .slice none 0 0 => match P.underlying e with
    | some (.int .u8) => some (.string .empty)
    | _ => none
  | some (.slice e), some .string, .slice (some ⟨b, off, none⟩) n _ => match P.underlying e with
    | some (.int .u8) => if n = 0 then some (.string .empty) else match S.rd b off n with
      | some l => (bytesOf l).map fun r => .string ⟨r.toArray⟩
      | none => none
    | _ => none
  | _, _, _ => none

theorem bytes_ints (c : Ctx) : ∀ (l us : List Value) (r : List UInt8), bytesOf l = some r → us.length = l.length → (∀ (i : Nat) (v u : Value), l[i]? = some v → us[i]? = some u → VR c v u) →
    ∃ ns : List Int, us = ns.map (Value.int .u8) ∧ r = ns.map (fun n => UInt8.ofNat n.toNat)
  | [], us, r, h, hl, _ => by
    have : us = [] := List.eq_nil_of_length_eq_zero (by simpa using hl)
    subst this
    simp only [bytesOf, Option.some.injEq] at h
    exact ⟨[], rfl, h.symm⟩
  | x :: l, us, r, h, hl, hv => by
    match us, hl with
    | u :: us, hl =>
      simp only [bytesOf] at h
      split at h
      · rename_i b r' hb hr
        cases h
        obtain ⟨ns, e1, e2⟩ := bytes_ints c l us r' hr (by simpa using hl) (fun i v u hx hy => hv (i + 1) v u hx hy)
        have h0 := hv 0 x u rfl rfl
        obtain ⟨n, rfl, rfl⟩ : ∃ n, x = .int .u8 n ∧ b = UInt8.ofNat n.toNat := by
          unfold byteOf at hb
          split at hb
          · exact ⟨_, rfl, (Option.some.inj hb).symm⟩
          · cases hb
        rw [h0.int_inv, e1, e2]
        exact ⟨n :: ns, rfl, rfl⟩
      · cases h

theorem fold_push : ∀ (ns : List Int) (r : ByteArray), ns.foldl (fun r n => r.push (UInt8.ofNat n.toNat)) r = ⟨r.data ++ (ns.map (fun n : Int => UInt8.ofNat n.toNat)).toArray⟩
  | [], r => by simp
  | n :: ns, r => by
    rw [List.foldl_cons, fold_push ns]
    simp [ByteArray.push]

theorem str_done (h : Pre G w0 c g S w a ac o) (s d : TypeId) (x : Operand) (ho : o.op = .convert s d x) (hv : strA P S s d (a.eval x) = some v) : Done P G w0 ac o c w v S := by
  have hc := h.ev (x := x) (by simp [ho, Op.operands])
  have he : execOp ac.eval o = (do pure (.value (← convert s d (ac.eval x)))) := by simp only [execOp, ho]
  have hemp : Conv.bytesToString (Value.slice none 0 0) = pure (.string .empty) := rfl
  unfold strA at hv
  split at hv
  · rename_i e hs hd hx
    split at hv
    · rename_i hu
      cases hv
      rw [hx] at hc
      generalize hux : ac.eval x = ux at hc he
      cases hc
      refine done_value he ?_ (Ctx.le.refl _) h.rel (.string _)
      simp [convert, run_underlying hs, run_underlying hd, run_underlying hu, hemp]
    · cases hv
  · rename_i e b off n k hs hd hx
    split at hv
    · rename_i hu
      rw [hx] at hc
      generalize hux : ac.eval x = ux at hc he
      have key : ∀ (ad : Addr) (cap : Nat) (ns : List Int), (loadCells ad n).run P w = .ok (ns.map (Value.int .u8)).toArray w →
          (convert s d (.slice (some ad) n cap)).run P w = .ok (.string ⟨(ns.map (fun n : Int => UInt8.ofNat n.toNat)).toArray⟩) w := fun ad cap ns hl => by
        have := run_bytesToString (P := P) w ad n cap ns hl
        rw [fold_push] at this
        simp only [convert, Sem.run_bind, run_underlying hs, run_underlying hd, Result.andThen_ok, run_underlying hu, this]
        congr 3
        simp [ByteArray.empty, ByteArray.emptyWithCapacity]
        rfl
      split at hv
      · rename_i hn
        subst hn
        cases hv
        have hz : ∀ ad : Addr, (loadCells ad 0).run P w = .ok (([] : List Int).map (Value.int .u8)).toArray w := fun ad => by simp [loadCells, loadCellsFrom]
        cases hc with
        | slice => exact done_value he (key _ _ [] (hz _)) (Ctx.le.refl _) h.rel (.string _)
        | empty => exact done_value he (key _ _ [] (hz _)) (Ctx.le.refl _) h.rel (.string _)
      · rename_i hn
        split at hv
        · rename_i l hl
          rw [Option.map_eq_some_iff] at hv
          obtain ⟨r, hr, rfl⟩ := hv
          obtain ⟨hb, hll, us, hul, hcell, hvr⟩ := h.rel.rd hl
          obtain ⟨ns, e1, e2⟩ := bytes_ints c l us r hr (by omega) hvr
          cases hc with
          | slice _ _ _ _ cap =>
            have hld := run_loadCells_list (P := P) w ⟨(c.loc b).1, (c.loc b).2 + off, none⟩ us (fun j u hu => by rw [Addr.add_lit]; exact hcell j u hu)
            rw [hul, e1] at hld
            rw [e2]
            exact done_value he (key _ _ ns hld) (Ctx.le.refl _) h.rel (.string _)
          | empty => exact absurd rfl hn
        · cases hv
    · cases hv
  · cases hv

/-- A slice, a pointer or a function held against nil: is it nil? -/
def nilA (P : Program) (t : TypeId) (x y : Value) : Option Bool :=
  match P.underlying t, x, y with
  | some (.slice _), .slice none _ _, .slice b _ _ => some b.isNone
  | some (.slice _), .slice (some _) _ _, .slice none _ _ => some false
  | some (.pointer _), .pointer none, .pointer b => some b.isNone
  | some (.pointer _), .pointer (some _), .pointer none => some false
  | _, _, _ => none

theorem equalIn_nil {t : TypeId} {x y x' y' : Value} {b : Bool} (hx : VR c x x') (hy : VR c y y') (h : nilA P t x y = some b) (w : World) (d : Nat) : (Op.equalIn (d + 1) t x' y').run P w = .ok b w := by
  unfold nilA at h
  split at h
  · rename_i e n k ad n' k' hu
    cases h
    cases hx with
    | slice0 => cases hy <;> simp [Op.equalIn, run_underlying hu]
  · rename_i e ad n k n' k' hu
    cases h
    cases hy with
    | slice0 => cases hx <;> simp [Op.equalIn, run_underlying hu]
  · rename_i e ad hu
    cases h
    cases hx with
    | ptr0 => cases hy <;> simp [Op.equalIn, run_underlying hu]
  · rename_i e ad hu
    cases h
    cases hy with
    | ptr0 => cases hx <;> simp [Op.equalIn, run_underlying hu]
  · cases h

theorem guard_nil (op : BinOp) (t : TypeId) (p q : Operand) (x y : Value) (h1 : ∀ cs, x ≠ .agg cs) (h2 : x ≠ .nilIface) (w : World) : (eqGuard op t p q x y).run P w = .ok () w := by
  cases x <;> first
    | exact absurd rfl h2
    | exact absurd rfl (h1 _)
    | (cases op <;> rfl)

theorem nilA_run {t : TypeId} {x y x' y' : Value} {b : Bool} (hx : VR c x x') (hy : VR c y y') (h : nilA P t x y = some b) (w : World) : (Op.equal t x' y').run P w = .ok b w ∧
    ∀ (op : BinOp) (p q : Operand), (eqGuard op t p q x' y').run P w = .ok () w := by
  refine ⟨equalIn_nil hx hy h w 9999, fun op p q => guard_nil op t p q x' y' (fun cs e => ?_) (fun e => ?_) w⟩
  · subst e
    unfold nilA at h
    split at h <;> cases hx
    cases h
  · subst e
    unfold nilA at h
    split at h <;> cases hx
    cases h

theorem nil_done (h : Pre G w0 c g S w a ac o) (op : BinOp) (t : TypeId) (x y : Operand) (yt : TypeId) (ho : o.op = .binOp op t x y yt) (hop : op = .eql ∨ op = .neq) (b : Bool) (hv : nilA P t (a.eval x) (a.eval y) = some b) :
    Done P G w0 ac o c w (.bool (if op = .eql then b else !b)) S := by
  have hx := h.ev (x := x) (by simp [ho, Op.operands])
  have hy := h.ev (x := y) (by simp [ho, Op.operands])
  obtain ⟨h1, h2⟩ := nilA_run hx hy hv w
  refine done_value (s := do eqGuard op t x y (ac.eval x) (ac.eval y); binOp op t (ac.eval x) (ac.eval y)) (u := .bool (if op = .eql then b else !b)) (by simp only [execOp, ho]) ?_ (Ctx.le.refl _) h.rel (.bool _)
  rw [Sem.run_bind, h2]
  simp only [Result.andThen_ok]
  have hform : ∀ u u' : Value, VR c (a.eval x) u → VR c (a.eval y) u' → (binOp .eql t u u' = do pure (.bool (← Op.equal t u u'))) ∧ (binOp .neq t u u' = do pure (.bool (!(← Op.equal t u u')))) := fun u u' e1 e2 => by
    unfold nilA at hv
    split at hv
    · rename_i q1 q2; rw [q1] at e1; rw [q2] at e2; cases e1; cases e2 <;> exact ⟨rfl, rfl⟩
    · rename_i q1 q2; rw [q1] at e1; rw [q2] at e2; cases e2; cases e1 <;> exact ⟨rfl, rfl⟩
    · rename_i q1 q2; rw [q1] at e1; rw [q2] at e2; cases e1; cases e2 <;> exact ⟨rfl, rfl⟩
    · rename_i q1 q2; rw [q1] at e1; rw [q2] at e2; cases e2; cases e1 <;> exact ⟨rfl, rfl⟩
    · cases hv
  obtain ⟨f1, f2⟩ := hform _ _ hx hy
  rcases hop with rfl | rfl
  · rw [f1]; simp [h1]
  · rw [f2]; simp [h1]

end Go.Am
