/- copy of a slice over the abstract memory; and that the model does the same. Conditions: as each theorem lists them. -/
import Derived.Test.YtninmfobgjkekaaAm8
set_option linter.unusedSimpArgs false
set_option linter.unusedVariables false
namespace Go.Am
open Go Go.RowKit

variable {P : Program} {G : Nat} {w0 w : World} {c : Ctx} {g : Gh} {S S' : St} {a ac : Act} {o : Oper} {v : Value}

/-- copy(d, x), x a slice. -/
def copyA (P : Program) (S : St) (t : TypeId) (d x : Value) : Option (Value × St) :=
  match P.underlying t, d, x with
  | some (.slice e), .slice _ n _, .slice _ m _ =>
    match P.info? e with
    | some i =>
      if Nat.min m n = 0 then some (goInt ((0 : Nat) : Int), S)
      else match d, x with
        | .slice (some ⟨b, off, none⟩) _ _, .slice (some ⟨b2, off2, none⟩) _ _ => match S.rd b2 off2 (Nat.min m n * i.size) with
          | some l => (S.wr b off l).map fun S' => (goInt ((Nat.min m n : Nat) : Int), S')
          | none => none
        | _, _ => none
    | none => none
  | _, _, _ => none

theorem copy_nothing {t tx e : TypeId} {i : TypeInfo} (hu : P.underlying t = some (.slice e)) (hi : P.info? e = some i) (d s : Option Addr) (dLen dCap sLen sCap : Nat) (hn : Nat.min sLen dLen = 0) (ty : TypeId) (w : World) :
    (Builtin.copy_ #[t, tx] ty #[.slice d dLen dCap, .slice s sLen sCap]).run P w = .ok (goInt ((0 : Nat) : Int)) w := by
  have hl : ∀ (x : Addr), (loadCells x 0).run P w = .ok #[] w := fun x => by simpa using run_loadCells_list (P := P) w x [] (by simp)
  cases d <;> cases s <;> simp [Builtin.copy_, run_underlying hu, Builtin.lenOf, Builtin.firstCells, sizeOf, typeInfo, hi, hn, storeCells, hl]

theorem copy_done (h : Pre G w0 c g S w a ac o) (d x : Operand) (t tx : TypeId) (ho : o.op = .call { callee := .builtin .copy, args := #[d, x], argTypes := #[t, tx] }) (hv : copyA P S t (a.eval d) (a.eval x) = some (v, S')) : Done P G w0 ac o c w v S' := by
  have hd := arg_ev h ho (x := d) (by simp)
  have hx := arg_ev h ho (x := x) (by simp)
  have fin : ∀ {u w' c' g'} , (Builtin.copy_ #[t, tx] o.type #[ac.eval d, ac.eval x]).run P w = .ok u w' → c.le c' → Rel G w0 c' g' S' w' → VR c' v u → Done P G w0 ac o c w v S' := fun hr hc hR hvr =>
    builtin_done ho (s := Builtin.copy_ #[t, tx] o.type #[ac.eval d, ac.eval x]) (fun cs => by simp [builtin]) hr hc hR hvr
  unfold copyA at hv
  split at hv
  · rename_i e ad n k ax m kx hu hdv hxv
    split at hv
    · rename_i i hi
      split at hv
      · rename_i hmin
        cases hv
        obtain ⟨ad', k', hd'⟩ : ∃ ad' k', ac.eval d = .slice ad' n k' := by
          rw [hdv] at hd
          generalize ac.eval d = ud at hd
          cases hd <;> exact ⟨_, _, rfl⟩
        obtain ⟨ax', kx', hx'⟩ : ∃ ax' kx', ac.eval x = .slice ax' m kx' := by
          rw [hxv] at hx
          generalize ac.eval x = ux at hx
          cases hx <;> exact ⟨_, _, rfl⟩
        exact fin (by rw [hd', hx']; exact copy_nothing hu hi _ _ _ _ _ _ hmin _ w) (Ctx.le.refl _) h.rel (.int _ _)
      · rename_i hmin
        split at hv
        · rename_i b off n1 k1 b2 off2 m1 kx1 hd1 hx1
          rw [hdv] at hd1
          rw [hxv] at hx1
          cases hd1
          cases hx1
          split at hv
          · rename_i l hl
            rw [Option.map_eq_some_iff] at hv
            obtain ⟨S1, hw, he⟩ := hv
            cases he
            obtain ⟨hb2, hll, us, hul, hcell, hvr⟩ := h.rel.rd hl
            obtain ⟨cur, e', hheap, hfit, hb, hone, hR'⟩ := h.rel.wr hw (by omega) hvr
            have h1 : ∀ u ∈ us, u.oneCell' = true := list_one (by omega) hvr hone
            rw [hdv] at hd
            rw [hxv] at hx
            generalize hdu : ac.eval d = ud at hd
            generalize hxu : ac.eval x = ux at hx
            cases hd with
            | empty => exact absurd (Nat.min_eq_right (Nat.zero_le _)) hmin
            | slice _ _ _ _ dcap hdb hdn =>
              cases hx with
              | empty => exact absurd (Nat.min_eq_left (Nat.zero_le _)) hmin
              | slice _ _ _ _ xcap hxb hxn =>
                have hf := run_firstCells_some (P := P) w i.size (Nat.min m n) ⟨(c.loc b2).1, (c.loc b2).2 + off2, none⟩ m xcap us hul fun j u hu => by rw [Addr.add_lit]; exact hcell j u hu
                have hst := run_storeCells_at P (c.loc b).1 ((c.loc b).2 + off) e' us 0 cur w hheap (by simpa using hfit) h1
                simp only [Nat.add_zero] at hst
                refine fin ?_ (Ctx.le.refl _) hR' (.int _ _)
                rw [hdu, hxu]
                simp [Builtin.copy_, run_underlying hu, Builtin.lenOf, sizeOf, typeInfo, hi, hf, hst, put]
                rfl
          · cases hv
        · cases hv
    · cases hv
  · cases hv

end Go.Am
