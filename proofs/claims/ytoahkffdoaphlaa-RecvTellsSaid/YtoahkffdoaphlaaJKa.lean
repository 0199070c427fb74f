/- Joined texts. Conditions: as each theorem lists them. -/
import Derived.Test.YtoahkffdoaphlaaJCa
import Derived.Deep.DeepCutAuto
import Derived.Deep.CutBlock
import Derived.StillTailTactics
import Derived.Laws.Rows
set_option linter.unusedSimpArgs false
set_option linter.unusedVariables false
set_option maxRecDepth 100000
set_option maxHeartbeats 80000000
namespace Go.Proofs.Ytoahkffdoaphlaa.Cr
open Go Go.RowKit Go.Proofs.Ytoahkffdoaphlaa Go.Proofs.Ytoahkffdoaphlaa.Cg
/-- A credit at place o of block p. -/
structure CredIn (w:World) (p o:Nat) (T:TypeId) (cur:Array Value) (l u:Int):Prop where
 hp:w.heap[p]?=some (.cells cur T (0,0))
 c0:cur[o]?=some (.int .i64 l)
 c1:cur[o+1]?=some (.int .i64 u)
/-- A grant at place o of block p. -/
structure GrIn (w:World) (p o:Nat) (T:TypeId) (cur:Array Value) (rm rd tl:Int):Prop where
 hp:w.heap[p]?=some (.cells cur T (0,0))
 c0:cur[o]?=some (.int .i64 rm)
 c1:cur[o+1]?=some (.int .i64 rd)
 c2:cur[o+2]?=some (.int .i64 tl)
/-- Outside k cells from o on nothing of the block has turned. -/
def Part (o k:Nat) (cur cur':Array Value):Prop:=cur'.size=cur.size∧∀ j,(j<o∨o+k≤j)→cur'[j]?=cur[j]?
theorem Part.refl (o k:Nat) (cur:Array Value):Part o k cur cur:=⟨rfl,fun _ _=>rfl⟩
theorem Part.trans {o k:Nat} {a b c:Array Value} (h:Part o k a b) (g:Part o k b c):Part o k a c:=⟨g.1.trans h.1,fun j hj=>(g.2 j hj).trans (h.2 j hj)⟩
theorem Part.set {o k:Nat} {a b:Array Value} (h:Part o k a b) (j:Nat) (hj:o≤j∧j<o+k) (u:Value):Part o k a (b.setIfInBounds j u) :=
 ⟨by rw [Array.size_setIfInBounds];exact h.1,fun i hi=>by rw [slot_other (by omega)];exact h.2 i hi⟩
def CredTo (w w':World) (p o:Nat) (T:TypeId) (cur:Array Value) (l u:Int):Prop:=∃ cur',CredIn w' p o T cur' l u∧Part o 2 cur cur'∧w.grownBy w' (some p)
def GrTo (w w':World) (p o:Nat) (T:TypeId) (cur:Array Value) (rm rd tl:Int):Prop:=∃ cur',GrIn w' p o T cur' rm rd tl∧Part o 3 cur cur'∧w.grownBy w' (some p)
section
variable {w:World} {p o:Nat} {T:TypeId} {cur:Array Value} {l u rm rd tl:Int}
theorem CredIn.cell (h:CredIn w p o T cur l u):w.cell? ⟨p,o,none⟩=some (.int .i64 l)∧w.cell? ⟨p,o+1,none⟩=some (.int .i64 u)∧∀ j,w.frozen? ⟨p,j,none⟩=false :=
 ⟨cell_slot h.hp h.c0,cell_slot h.hp h.c1,fun _=>free_slot h.hp⟩
theorem GrIn.cell (h:GrIn w p o T cur rm rd tl):w.cell? ⟨p,o,none⟩=some (.int .i64 rm)∧w.cell? ⟨p,o+1,none⟩=some (.int .i64 rd)∧w.cell? ⟨p,o+2,none⟩=some (.int .i64 tl)∧∀ j,w.frozen? ⟨p,j,none⟩=false :=
 ⟨cell_slot h.hp h.c0,cell_slot h.hp h.c1,cell_slot h.hp h.c2,fun _=>free_slot h.hp⟩
theorem CredIn.drewN (h:CredIn w p o T cur l u) (m:Nat):CredIn (w.drewN m) p o T cur l u:=⟨h.hp,h.c0,h.c1⟩
theorem GrIn.drewN (h:GrIn w p o T cur rm rd tl) (m:Nat):GrIn (w.drewN m) p o T cur rm rd tl:=⟨h.hp,h.c0,h.c1,h.c2⟩
theorem GrIn.drew (h:GrIn w p o T cur rm rd tl):GrIn w.drew p o T cur rm rd tl:=⟨h.hp,h.c0,h.c1,h.c2⟩
theorem GrTo.undrew {w':World} (h:GrTo w.drew w' p o T cur rm rd tl):GrTo w w' p o T cur rm rd tl:=by
 obtain ⟨c,h1,h2,h3⟩:=h
 exact ⟨c,h1,h2,⟨h3.os,h3.tape,h3.output,h3.size,h3.block⟩⟩
theorem CredIn.here (h:CredIn w p o T cur l u) (m:Nat):CredTo w (w.drewN m) p o T cur l u:=⟨cur,h.drewN m,Part.refl _ _ _,grown_drew (grown_refl _ _) m⟩
theorem GrIn.here (h:GrIn w p o T cur rm rd tl) (m:Nat):GrTo w (w.drewN m) p o T cur rm rd tl:=⟨cur,h.drewN m,Part.refl _ _ _,grown_drew (grown_refl _ _) m⟩
theorem CredIn.set0 (h:CredIn w p o T cur l u) (v:Int) (m:Nat):CredTo w ((w.drewN m).setCell ⟨p,o,none⟩ (.int .i64 v)) p o T cur v u :=
 ⟨_,⟨set_slot (h.drewN m).hp _ _,slot_set h.c0,(slot_other (by omega)).trans h.c1⟩,(Part.refl _ _ _).set o (by omega) _,grown_set (grown_drew (grown_refl _ _) m) _ _⟩
theorem CredIn.set1 (h:CredIn w p o T cur l u) (v:Int) (m:Nat):CredTo w ((w.drewN m).setCell ⟨p,o+1,none⟩ (.int .i64 v)) p o T cur l v :=
 ⟨_,⟨set_slot (h.drewN m).hp _ _,(slot_other (by omega)).trans h.c0,slot_set h.c1⟩,(Part.refl _ _ _).set (o+1) (by omega) _,grown_set (grown_drew (grown_refl _ _) m) _ _⟩
theorem GrIn.set1 (h:GrIn w p o T cur rm rd tl) (v:Int) (m:Nat):GrTo w ((w.drewN m).setCell ⟨p,o+1,none⟩ (.int .i64 v)) p o T cur rm v tl :=
 ⟨_,⟨set_slot (h.drewN m).hp _ _,(slot_other (by omega)).trans h.c0,slot_set h.c1,(slot_other (by omega)).trans h.c2⟩,(Part.refl _ _ _).set (o+1) (by omega) _,grown_set (grown_drew (grown_refl _ _) m) _ _⟩
theorem GrIn.set2 (h:GrIn w p o T cur rm rd tl) (v:Int) (m:Nat):GrTo w ((w.drewN m).setCell ⟨p,o+2,none⟩ (.int .i64 v)) p o T cur rm rd v :=
 ⟨_,⟨set_slot (h.drewN m).hp _ _,(slot_other (by omega)).trans h.c0,(slot_other (by omega)).trans h.c1,slot_set h.c2⟩,(Part.refl _ _ _).set (o+2) (by omega) _,grown_set (grown_drew (grown_refl _ _) m) _ _⟩
end
theorem drewN_zero (w:World):w.drewN 0=w:=rfl
def leftF (l u:Int):Int:=max 0 (l - u)
def eatF (n:Int):Int:=min (max n 0) 1048576
def roomF (n:Int):Int:=min (max n 1) 1048576
def useB (l u n:Int):Bool:=decide (0≤n∧n≤leftF l u)
def raiseB (l n:Int):Bool:=decide (l<n∧n≤4611686018427387903)
def dueB (rm rd tl:Int):Bool:=decide (max 1 (rm / 2)≤rd+rm - tl)
theorem eatF_in (n:Int):0≤eatF n∧eatF n≤1048576:=by unfold eatF;omega
theorem roomF_in (n:Int):1≤roomF n∧roomF n≤1048576:=by unfold roomF;omega
theorem within_any (n a b:Int) (w:World) :
  Calls Try.prog 106 #[.int .i64 n,.int .i64 a,.int .i64 b] w fun e w'=>e=.returned (.int .i64 (min (max n a) b))∧w'=w:=by
 go_enter Try.func106,Try.ntmps106
 go_wp2
 all_goals go_ret
 all_goals exact ⟨ret_int (by omega),rfl⟩
theorem gap_any (w:World) (a b:Int) (d:Nat) (hd:b - a=d) (ha:0≤a) (hb:b≤9223372036854775807) :
  Calls Try.prog 77 #[.int .i64 a,.int .i64 b] w fun e w'=>e=.returned (.int .u64 (d:Int))∧w'=w:=by
 have HD:=Lib.hid hd
 have h0:0≤b:=by omega
 have h1:a≤b:=by omega
 clear hd
 go_enter Try.func77,Try.ntmps77
 go_wp2_with fail
 go_ret
 exact ⟨by rw [HD.out];rfl,rfl⟩
theorem sum_any (w:World) (a b:Int) (ha:0≤a) (hb:0≤b) (hs:a+b≤9223372036854775807) :
  Calls Try.prog 107 #[.int .i64 a,.int .i64 b] w fun e w'=>e=.returned (.int .i64 (a+b))∧w'=w:=by
 go_enter Try.func107,Try.ntmps107
 go_wp2_with fail
 all_goals go_ret
 all_goals exact ⟨rfl,rfl⟩
end Go.Proofs.Ytoahkffdoaphlaa.Cr
