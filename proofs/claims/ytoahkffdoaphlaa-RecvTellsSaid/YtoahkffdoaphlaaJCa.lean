/- Joined texts. Conditions: as each theorem lists them. -/
import Derived.Test.YtoahkffdoaphlaaJOp
import Derived.Test.YtoahkffdoaphlaaJH1
import Derived.OneCell
import Derived.Deep.QuietTactic
import Derived.BigQuiet
set_option linter.unusedSimpArgs false
set_option linter.unusedVariables false
set_option maxRecDepth 100000
set_option maxHeartbeats 80000000
namespace Go.Proofs.Ytoahkffdoaphlaa.Cg
open Go Go.RowKit Go.Proofs.Ytoahkffdoaphlaa
structure Win where
 size:Int
 slow:Int
 part:Int
 till:Int
def goodS (s:Win):Win :=
 if s.size<s.slow then { s with size:=min (s.size+1) 32 }
 else if s.part+1=s.size then { s with size:=min (s.size+1) 32,part:=0 }
 else { s with size:=min s.size 32,part:=s.part+1 }
def goodN:Nat→Win→Win
 | 0,s=>s
 | n+1,s=>goodN n (goodS s)
def badS (s:Win) (num next:Int):Win:=if num<s.till then s else ⟨max (s.size.tdiv 2) 2,max (s.size.tdiv 2) 2,0,next⟩
structure OkW (s:Win):Prop where
 s2:2≤s.size
 s32:s.size≤32
 l2:2≤s.slow
 l32:s.slow≤32
 p0:0≤s.part
 ps:s.part<s.size
theorem OkW.good {s:Win} (h:OkW s):OkW (goodS s):=by
 obtain ⟨h1,h2,h3,h4,h5,h6⟩:=h
 unfold goodS
 split
 ·exact ⟨by show 2≤min _ _;omega,by show min _ _≤32;omega,h3,h4,h5,by show s.part<min _ _;omega⟩
 ·split
  ·exact ⟨by show 2≤min _ _;omega,by show min _ _≤32;omega,h3,h4,Int.le_refl _,by show 0<min _ _;omega⟩
  ·exact ⟨by show 2≤min _ _;omega,by show min _ _≤32;omega,h3,h4,by show 0≤s.part+1;omega,by show s.part+1<min _ _;omega⟩
theorem OkW.bad {s:Win} (h:OkW s) (num next:Int):OkW (badS s num next):=by
 obtain ⟨h1,h2,h3,h4,h5,h6⟩:=h
 have e:s.size.tdiv 2=s.size / 2:=Int.tdiv_eq_ediv_of_nonneg (by omega)
 unfold badS
 split
 ·exact ⟨h1,h2,h3,h4,h5,h6⟩
 ·rw [e]
  exact ⟨by show 2≤max _ _;omega,by show max _ _≤32;omega,by show 2≤max _ _;omega,by show max _ _≤32;omega,Int.le_refl _,by show 0<max _ _;omega⟩
theorem OkW.goodN {s:Win} (h:OkW s):∀ n,OkW (goodN n s):=fun n=>by
 induction n generalizing s with
 | zero=>exact h
 | succ n ih=>exact ih h.good
theorem goodN_add (s:Win):∀ m n,goodN (m+n) s=goodN n (goodN m s):=fun m n=>by
 induction m generalizing s with
 | zero=>rw [Nat.zero_add];rfl
 | succ m ih=>rw [Nat.succ_add];exact ih (goodS s)
/-- A window at place o of block p. -/
structure WinIn (w:World) (p o:Nat) (T:TypeId) (cur:Array Value) (s:Win):Prop where
 hp:w.heap[p]?=some (.cells cur T (0,0))
 c0:cur[o]?=some (.int .i64 s.size)
 c1:cur[o+1]?=some (.int .i64 s.slow)
 c2:cur[o+2]?=some (.int .i64 s.part)
 c3:cur[o+3]?=some (.int .i64 s.till)
theorem cell_slot {w:World} {p o:Nat} {T:TypeId} {cur:Array Value} {v:Value} (h:w.heap[p]?=some (.cells cur T (0,0))) (ho:cur[o]?=some v):w.cell? ⟨p,o,none⟩=some v:=by simp [World.cell?,h,ho]
theorem free_slot {w:World} {p o:Nat} {T:TypeId} {cur:Array Value} (h:w.heap[p]?=some (.cells cur T (0,0))):w.frozen? ⟨p,o,none⟩=false:=by simp [World.frozen?,h]
theorem set_slot {w:World} {p:Nat} {T:TypeId} {cur:Array Value} (h:w.heap[p]?=some (.cells cur T (0,0))) (o:Nat) (u:Value):(w.setCell ⟨p,o,none⟩ u).heap[p]?=some (.cells (cur.setIfInBounds o u) T (0,0)):=by
 have hlt:=lt_of_block h
 have h':w.heap[p]=.cells cur T (0,0):=by simpa [Array.getElem?_eq_getElem hlt] using h
 show (w.heap.modify p _)[p]?=_
 rw [Array.getElem?_eq_getElem (by simpa using hlt),Array.getElem_modify_self,h']
 rfl
theorem slot_set {cur:Array Value} {o:Nat} {v u:Value} (h:cur[o]?=some v):(cur.setIfInBounds o u)[o]?=some u:=by
 have:=(Array.getElem?_eq_some_iff.1 h).1
 simp [Array.getElem?_setIfInBounds,this]
theorem slot_other {cur:Array Value} {o j:Nat} {u:Value} (h:j≠o):(cur.setIfInBounds j u)[o]?=cur[o]?:=by
 rw [Array.getElem?_setIfInBounds,if_neg h]
/-- Outside the window's four cells nothing of the block has turned. -/
def CurSame (o:Nat) (cur cur':Array Value):Prop:=cur'.size=cur.size∧∀ j,(j<o∨o+4≤j)→cur'[j]?=cur[j]?
theorem CurSame.refl (o:Nat) (cur:Array Value):CurSame o cur cur:=⟨rfl,fun _ _=>rfl⟩
theorem CurSame.trans {o:Nat} {a b c:Array Value} (h:CurSame o a b) (k:CurSame o b c):CurSame o a c:=⟨k.1.trans h.1,fun j hj=>(k.2 j hj).trans (h.2 j hj)⟩
theorem CurSame.set {o:Nat} {a b:Array Value} (h:CurSame o a b) (j:Nat) (hj:o≤j∧j<o+4) (u:Value):CurSame o a (b.setIfInBounds j u) :=
 ⟨by rw [Array.size_setIfInBounds];exact h.1,fun i hi=>by rw [slot_other (by omega)];exact h.2 i hi⟩
theorem grown_refl (w:World) (r:Option Nat):w.grownBy w r:=⟨rfl,rfl,rfl,Nat.le_refl _,fun _ _ _=>rfl⟩
theorem grown_set {a w:World} {p:Nat} (h:a.grownBy w (some p)) (o:Nat) (u:Value):a.grownBy (w.setCell ⟨p,o,none⟩ u) (some p) :=
 ⟨h.os,h.tape,h.output,by simpa [World.setCell] using h.size,fun k hk hne=>(Below.heap_setCell _ _ _ _ (fun e=>hne (by rw [e]))).trans (h.block k hk hne)⟩
theorem grown_drew {a w:World} {r:Option Nat} (h:a.grownBy w r) (m:Nat):a.grownBy (w.drewN m) r:=⟨h.os,h.tape,h.output,h.size,h.block⟩
theorem grown_trans {a b c:World} {r:Option Nat} (h:a.grownBy b r) (k:b.grownBy c r):a.grownBy c r :=
 ⟨k.os.trans h.os,k.tape.trans h.tape,k.output.trans h.output,Nat.le_trans h.size k.size,fun i hi hne=>(k.block i (Nat.lt_of_lt_of_le hi h.size) hne).trans (h.block i hi hne)⟩
section
variable {w:World} {p o:Nat} {T:TypeId} {cur:Array Value} {s:Win}
theorem WinIn.cell (h:WinIn w p o T cur s):w.cell? ⟨p,o,none⟩=some (.int .i64 s.size)∧w.cell? ⟨p,o+1,none⟩=some (.int .i64 s.slow)∧w.cell? ⟨p,o+2,none⟩=some (.int .i64 s.part)∧w.cell? ⟨p,o+3,none⟩=some (.int .i64 s.till) :=
 ⟨cell_slot h.hp h.c0,cell_slot h.hp h.c1,cell_slot h.hp h.c2,cell_slot h.hp h.c3⟩
theorem WinIn.free (h:WinIn w p o T cur s) (j:Nat):w.frozen? ⟨p,j,none⟩=false:=free_slot h.hp
theorem WinIn.drewN (h:WinIn w p o T cur s) (m:Nat):WinIn (w.drewN m) p o T cur s:=⟨h.hp,h.c0,h.c1,h.c2,h.c3⟩
theorem WinIn.set0 (h:WinIn w p o T cur s) (v:Int):WinIn (w.setCell ⟨p,o,none⟩ (.int .i64 v)) p o T (cur.setIfInBounds o (.int .i64 v)) { s with size:=v } :=
 ⟨set_slot h.hp _ _,slot_set h.c0,(slot_other (by omega)).trans h.c1,(slot_other (by omega)).trans h.c2,(slot_other (by omega)).trans h.c3⟩
theorem WinIn.set1 (h:WinIn w p o T cur s) (v:Int):WinIn (w.setCell ⟨p,o+1,none⟩ (.int .i64 v)) p o T (cur.setIfInBounds (o+1) (.int .i64 v)) { s with slow:=v } :=
 ⟨set_slot h.hp _ _,(slot_other (by omega)).trans h.c0,slot_set h.c1,(slot_other (by omega)).trans h.c2,(slot_other (by omega)).trans h.c3⟩
theorem WinIn.set2 (h:WinIn w p o T cur s) (v:Int):WinIn (w.setCell ⟨p,o+2,none⟩ (.int .i64 v)) p o T (cur.setIfInBounds (o+2) (.int .i64 v)) { s with part:=v } :=
 ⟨set_slot h.hp _ _,(slot_other (by omega)).trans h.c0,(slot_other (by omega)).trans h.c1,slot_set h.c2,(slot_other (by omega)).trans h.c3⟩
theorem WinIn.set3 (h:WinIn w p o T cur s) (v:Int):WinIn (w.setCell ⟨p,o+3,none⟩ (.int .i64 v)) p o T (cur.setIfInBounds (o+3) (.int .i64 v)) { s with till:=v } :=
 ⟨set_slot h.hp _ _,(slot_other (by omega)).trans h.c0,(slot_other (by omega)).trans h.c1,(slot_other (by omega)).trans h.c2,slot_set h.c3⟩
/-- Kept where another block turns. -/
theorem WinIn.kept {w':World} {r:Option Nat} (h:WinIn w p o T cur s) (hg:w.grownBy w' r) (hr:some p≠r):WinIn w' p o T cur s:=⟨(hg.block p (lt_of_block h.hp) hr).trans h.hp,h.c0,h.c1,h.c2,h.c3⟩
end
end Go.Proofs.Ytoahkffdoaphlaa.Cg
