/- A credit and a grant beside each other. Conditions: as each theorem lists them. -/
import Derived.Test.YtninmfobgjkekaaKd
import Derived.Test.YtninmfobgjkekaaCrKn
set_option linter.unusedSimpArgs false
set_option linter.unusedVariables false
namespace Go.Proofs.Ytninmfobgjkekaa.Cr
open Go Go.RowKit Go.Proofs.Ytninmfobgjkekaa Go.Proofs.Ytninmfobgjkekaa.Cg

structure Both (w0 w : World) (p g : Nat) (l u rm rd tl : Int) : Prop where
  a : SC w p 23 l u
  ok : OkC l u
  b : SG w g 26 rm rd tl
  lo : w0.heap.size ≤ p
  lg : w0.heap.size ≤ g
  ne : p ≠ g
  be : Below w0.heap.size w0 w
section
variable {w0 w w' : World} {p g : Nat} {l u rm rd tl l' u' rd' tl' : Int}
theorem Both.below {B : Nat} (h : Both w0 w p g l u rm rd tl) (hb : Below B w w') (hB : w.heap.size ≤ B) : Both w0 w' p g l u rm rd tl :=
  ⟨h.a.below hb (Nat.lt_of_lt_of_le h.a.lt hB), h.ok, h.b.below hb (Nat.lt_of_lt_of_le h.b.lt hB), h.lo, h.lg, h.ne, h.be.trans (hb.mono (by have := h.a.lt; have := h.lo; omega))⟩
theorem Both.drewN (h : Both w0 w p g l u rm rd tl) (m : Nat) : Both w0 (w.drewN m) p g l u rm rd tl :=
  ⟨h.a.drewN m, h.ok, h.b.drewN m, h.lo, h.lg, h.ne, ⟨h.be.os, h.be.tape, h.be.output, h.be.size, h.be.block⟩⟩
theorem Both.cred (h : Both w0 w p g l u rm rd tl) (h1 : SC w' p 23 l' u') (hg : w.grownBy w' (some p)) (hok : OkC l' u') : Both w0 w' p g l' u' rm rd tl :=
  ⟨h1, hok, h.b.kept hg h.ne.symm, h.lo, h.lg, h.ne, h.be.grown hg (Nat.le_of_lt (Nat.lt_of_le_of_lt h.lo h.a.lt)) (by rintro k hk; cases hk; exact h.lo)⟩
theorem Both.grant (h : Both w0 w p g l u rm rd tl) (h1 : SG w' g 26 rm rd' tl') (hg : w.grownBy w' (some g)) : Both w0 w' p g l u rm rd' tl' :=
  ⟨h.a.kept hg h.ne, h.ok, h1, h.lo, h.lg, h.ne, h.be.grown hg (Nat.le_of_lt (Nat.lt_of_le_of_lt h.lo h.a.lt)) (by rintro k hk; cases hk; exact h.lg)⟩
end
end Go.Proofs.Ytninmfobgjkekaa.Cr
