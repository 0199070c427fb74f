/- For a statement of the second form: an argument of bytes, opened, with its bulk. Conditions: as each theorem lists them. -/
import Derived.Test.YtegfaecbealnhabBy
import Derived.Test.YtegfaecbealnhabRows
namespace Go.Proofs.Ytegfaecbealnhab.Up
open Go Go.RowKit Go.ChangeShapes Go.WideShapes Go.ChangeAt Go.WideMaps Go.WideElems

theorem one_le {H : Type} (d : DataW H) : 1 ≤ Rows.uptoBulk d := by
  cases d with
  | lit l => cases l <;> simp [Rows.uptoBulk]
  | nil => simp [Rows.uptoBulk]
  | ptr d => simp [Rows.uptoBulk]
  | slice elems spare => simp [Rows.uptoBulk]
  | agg parts => simp [Rows.uptoBulk]
  | iface t d => simp [Rows.uptoBulk]
  | map entries => simp [Rows.uptoBulk]
  | held h => simp [Rows.uptoBulk]

theorem length_le {H : Type} (l : List (DataW H)) : l.length ≤ Rows.uptoBulkAll l := by
  induction l with
  | nil => simp [Rows.uptoBulkAll]
  | cons x r ih => have := one_le x; simp only [Rows.uptoBulkAll, List.length_cons]; omega

theorem open_bytes {H : Type} {enc : TypeId × Value → H} {W : World} {base : Nat} {v : Value} {d : DataW H} {p : List MemPlace} {ts : List TypeId} {ds : List (DataW H)} (hval : Value.okWide Try.prog W .any base 53 v) (h : DataW.Trod enc Try.prog W 0 (fun _ => true) true 53 v d p)
    (hs : (DataW.weightsEach Try.prog ts ds).all (· ≤ reachBytes) = true) (j : Nat) (hj : ts[j]? = some 53) (hd : ds[j]? = some d) : ∃ A cap bs, v = .slice A bs.length cap ∧ IsBytes W A cap bs ∧ bs.length ≤ Rows.uptoBulk d := by
  obtain ⟨A, cap, zs, e, h1, h2, h3, h4⟩ := open_nums Try.underlying53 Try.underlying5 (by kernel_rfl) hval h
  obtain ⟨A', cap', bs, e', hb⟩ := Proofs.Ytegfaecbealnhab.open_bytes hval h hs j hj hd
  rw [e] at e'
  simp only [Value.slice.injEq] at e'
  refine ⟨A', cap', bs, by rw [e]; simp only [Value.slice.injEq]; exact e', hb, ?_⟩
  rw [← e'.2.1]
  rcases h4 with ⟨_, h4⟩ | ⟨es, sp, rfl, h4⟩
  · subst h4
    simp
  · have h5 := length_le es
    have h6 := length_le sp
    simp only [Rows.uptoBulk]
    omega
end Go.Proofs.Ytegfaecbealnhab.Up
