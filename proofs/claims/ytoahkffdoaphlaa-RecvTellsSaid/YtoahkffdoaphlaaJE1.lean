/- Joined texts. Conditions: as each theorem lists them. -/
import Derived.Test.YtoahkffdoaphlaaJG1
set_option linter.unusedSimpArgs false
set_option linter.unusedVariables false
set_option maxRecDepth 100000
set_option maxHeartbeats 80000000
namespace Go.Proofs.Ytoahkffdoaphlaa
open Go Go.RowKit
/-- Frames in memory, whoever's. -/
def Frs (w:World) (A:Option Addr) (n c:Nat) (fs:List Fr):Prop:=fs.length=n∧n≤c∧∃ cells,Rd w w.heap.size A (n * 9) cells∧FrsC w fs cells
theorem Frs.below {w w':World} {A:Option Addr} {n c:Nat} {fs:List Fr} (h:Frs w A n c fs) (hb:Below w.heap.size w w'):Frs w' A n c fs:=by
 obtain ⟨h1,h2,cells,h3,h4⟩:=h
 exact ⟨h1,h2,cells,(h3.below hb (Nat.le_refl _)).more hb.size,h4.below hb⟩
theorem FrsOwn.frs {w:World} {base:Nat} {A:Option Addr} {n c:Nat} {fs:List Fr} (h:FrsOwn w base (.slice A n c) fs) (hn:fs.length=n):Frs w A n c fs:=by
 obtain ⟨cells,h1,h2⟩:=h
 subst hn
 obtain ⟨A',c',e,hc,_,_,hr⟩:=own_form h1
 simp only [Value.slice.injEq] at e
 obtain ⟨rfl,_,rfl⟩:=e
 exact ⟨rfl,hc,cells,hr,h2⟩
/-- The k-th of them: its nine cells, read. -/
theorem Frs.get {w:World} {A:Option Addr} {n c:Nat} {fs:List Fr} (h:Frs w A n c fs) (k:Nat) (hk:k<n) :
  ∃ b off f A1 n1 c1 A2 n2 c2,A=some ⟨b,off,none⟩∧b<w.heap.size∧fs[k]?=some f∧FrC w f (frC f (.slice A1 n1 c1) (.slice A2 n2 c2))∧∀ (j:Nat) (u:Value),(frC f (.slice A1 n1 c1) (.slice A2 n2 c2))[j]?=some u→w.cell? ⟨b,off+k * 9+j,none⟩=some u:=by
 obtain ⟨h1,h2,cells,h3,h4⟩:=h
 obtain ⟨b,off,rfl,hb,hc⟩:=h3.2 (by omega)
 have hf:fs[k]?=some (fs[k]'(by omega)):=List.getElem?_eq_getElem (by omega)
 obtain ⟨cs,hcs,hj⟩:=h4.get k _ hf
 have hcs2:=hcs
 obtain ⟨A1,n1,c1,A2,n2,c2,rfl,_⟩:=hcs2
 refine ⟨b,off,_,A1,n1,c1,A2,n2,c2,rfl,hb,hf,hcs,fun j u hu=>?_⟩
 have hj9:j<9:=(List.getElem?_eq_some_iff.1 hu).1
 rw [Nat.add_assoc]
 exact hc _ u ((hj j hj9).trans hu)
def ElP (fs:List Fr) (w:World) (e:Ending) (w':World):Prop:=∃ r:Int,e=.returned (.int .i64 r)∧decide (0≤r)=(fs.any fun f=>elB f.k)∧Below w.heap.size w w'
theorem any_no {fs:List Fr} {n:Nat} (hn:fs.length=n) (h:∀ j f,j<n→fs[j]?=some f→elB f.k=false):(fs.any fun f=>elB f.k)=false:=by
 rw [List.any_eq_false]
 intro f hf
 obtain ⟨j,hj,rfl⟩:=List.mem_iff_getElem.1 hf
 rw [h j _ (by omega) (List.getElem?_eq_getElem hj)]
 decide
theorem any_yes {fs:List Fr} {k:Nat} {f:Fr} (hf:fs[k]?=some f) (h:elB f.k=true):(fs.any fun f=>elB f.k)=true :=
 List.any_eq_true.2 ⟨f,List.mem_of_getElem? hf,h⟩
end Go.Proofs.Ytoahkffdoaphlaa
