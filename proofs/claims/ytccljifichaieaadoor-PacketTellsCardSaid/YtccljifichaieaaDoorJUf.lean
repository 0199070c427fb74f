/- Joined texts. Conditions: as each theorem lists them. -/
import Derived.Test.YtccljifichaieaaDoorJUb
import Derived.Test.YtccljifichaieaaDoorJUe
set_option linter.unusedSimpArgs false
set_option linter.unusedVariables false
set_option maxRecDepth 100000
set_option maxHeartbeats 8000000
namespace Go.Proofs.YtccljifichaieaaDoor.Rv
open Go Go.RowKit
def numsO (fl:Nat) (ds:List Nat):Nat→Option (List Int × List Nat)
 | 0=>some ([],ds)
 | j+1=>match numsO fl ds j with
   | none=>none
   | some (ns,r)=>match dec r with
     | none=>none
     | some (v,W)=>if j=fl∧1<v then none else some (ns ++ [(v:Int)],r.drop W)
theorem numsO_none {fl:Nat} {ds:List Nat} {i:Nat} (h:numsO fl ds i=none):∀ j,numsO fl ds (i+j)=none
 | 0=>h
 | j+1=>by
   show (match numsO fl ds (i+j) with | none=>none | some (ns,r)=>match dec r with | none=>none | some (v,W)=>if i+j=fl∧1<v then none else some (ns ++ [(v:Int)],r.drop W))=none
   rw [numsO_none h j]
theorem numsO_no {fl:Nat} {ds:List Nat} {k n:Nat} (hk:k<n) (h:numsO fl ds (k+1)=none):numsO fl ds n=none:=by
 have:=numsO_none h (n - (k+1))
 rwa [show k+1+(n - (k+1))=n by omega] at this
theorem numsO_next {fl:Nat} {ds r:List Nat} {j v W:Nat} {ns:List Int} (h:numsO fl ds j=some (ns,r)) (hd:dec r=some (v,W)):numsO fl ds (j+1)=if j=fl∧1<v then none else some (ns ++ [(v:Int)],r.drop W):=by
 show (match numsO fl ds j with | none=>none | some (ns,r)=>match dec r with | none=>none | some (v,W)=>if j=fl∧1<v then none else some (ns ++ [(v:Int)],r.drop W))=_
 rw [h]
 simp only [hd]
theorem numsO_stop {fl:Nat} {ds r:List Nat} {j:Nat} {ns:List Int} (h:numsO fl ds j=some (ns,r)) (hd:dec r=none):numsO fl ds (j+1)=none:=by
 show (match numsO fl ds j with | none=>none | some (ns,r)=>match dec r with | none=>none | some (v,W)=>if j=fl∧1<v then none else some (ns ++ [(v:Int)],r.drop W))=_
 rw [h]
 simp only [hd]
theorem numsO_in {fl:Nat} {ds:List Nat}:∀ (j:Nat) (x:List Int × List Nat),numsO fl ds j=some x→x.1.length=j∧(∀ c ∈ x.2,c ∈ ds)∧x.2.length≤ds.length
 | 0,x,h=>by simp only [numsO,Option.some.injEq] at h;subst h;exact ⟨rfl,fun c hc=>hc,Nat.le_refl _⟩
 | j+1,x,h=>by
   cases hq:numsO fl ds j with
   | none=>rw [numsO_none hq 1] at h;cases h
   | some q =>
     obtain ⟨ns,r⟩:=q
     obtain ⟨g1,g2,g3⟩:=numsO_in j _ hq
     cases hd:dec r with
     | none=>rw [numsO_stop hq hd] at h;cases h
     | some p =>
       obtain ⟨v,W⟩:=p
       rw [numsO_next hq hd] at h
       split at h
       ·cases h
       ·simp only [Option.some.injEq] at h
        subst h
        simp only at g1 g2 g3
        exact ⟨by simp [g1],fun c hc=>g2 c (List.mem_of_mem_drop hc),by simp only [List.length_drop];omega⟩
theorem len1 {l:List Int} (h:l.length=1):∃ a,l=[a]:=by
 match l,h with
 | [a],_=>exact ⟨a,rfl⟩
theorem len2 {l:List Int} (h:l.length=2):∃ a b,l=[a,b]:=by
 match l,h with
 | [a,b],_=>exact ⟨a,b,rfl⟩
theorem len3 {l:List Int} (h:l.length=3):∃ a b c,l=[a,b,c]:=by
 match l,h with
 | [a,b,c],_=>exact ⟨a,b,c,rfl⟩
theorem len4 {l:List Int} (h:l.length=4):∃ a b c d,l=[a,b,c,d]:=by
 match l,h with
 | [a,b,c,d],_=>exact ⟨a,b,c,d,rfl⟩
def okO (f:Fr) (r:List Nat):Option (Fr × List Nat):=if rightB f=true then some (f,r) else none
def okD (f:List Nat→Fr) (r:List Nat):Option (Fr × List Nat):=match dO true r with
 | none=>none
 | some (d,r2)=>okO (f d) r2
theorem frameO_1 {bs ds:List Nat} {W:Nat} (hd:dec bs=some (1,W)) (hds:bs.drop W=ds):frameO bs=match numsO 9 ds 0 with | none=>none | some (ns,r)=>okO ⟨1,0,0,0,0,0,false,[],[]⟩ r:=by
 unfold frameO bodyO
 simp only [hd,hds]
 rw [if_neg (by decide)]
 simp only [show nbit ((1:Nat):Int) 0=false from rfl,show nbit ((1:Nat):Int) 1=false from rfl,show nbit ((1:Nat):Int) 2=false from rfl,show nbit ((1:Nat):Int) 3=false from rfl,show nbit ((1:Nat):Int) 4=false from rfl,show nbit ((1:Nat):Int) 5=false from rfl,show nbit ((1:Nat):Int) 6=false from rfl,nO,fO,sO,numsO,okO,okD]
 all_goals first | done | rfl | (simp [dO];done) | (split <;> rfl)
theorem frameO_3 {bs ds:List Nat} {W:Nat} (hd:dec bs=some (3,W)) (hds:bs.drop W=ds):frameO bs=match numsO 2 ds 3 with | none=>none | some (ns,r)=>okD (fun d=>⟨3,ns.getD 0 0,ns.getD 1 0,0,0,0,(ns.getD 2 0 == 1),d,[]⟩) r:=by
 unfold frameO bodyO
 simp only [hd,hds]
 rw [if_neg (by decide)]
 simp only [show nbit ((3:Nat):Int) 0=true from rfl,show nbit ((3:Nat):Int) 1=false from rfl,show nbit ((3:Nat):Int) 2=true from rfl,show nbit ((3:Nat):Int) 3=false from rfl,show nbit ((3:Nat):Int) 4=true from rfl,show nbit ((3:Nat):Int) 5=true from rfl,show nbit ((3:Nat):Int) 6=false from rfl,nO,fO,sO,numsO,okO,okD]
 cases h0:dec ds with
 | none=>simp only [h0]
 | some p =>
 obtain ⟨v0,W0⟩:=p
 simp only [h0]
 rw [if_neg (show ¬ (0=2∧1<v0) by omega)]
 try simp only
 cases h1:dec (List.drop W0 ds) with
 | none=>simp only [h1]
 | some p =>
 obtain ⟨v1,W1⟩:=p
 simp only [h1]
 rw [if_neg (show ¬ (1=2∧1<v1) by omega)]
 try simp only
 cases h2:dec (List.drop W1 (List.drop W0 ds)) with
 | none=>simp only [h2]
 | some p =>
 obtain ⟨v2,W2⟩:=p
 simp only [h2]
 by_cases hv:1<v2
 ·simp only [hv,if_true,and_self]
 ·skip
  simp only [hv,and_false,if_false]
  rw [show decide (v2=1)=((v2:Int) == 1) from by by_cases h:v2=1 <;> simp [h] <;> omega]
  all_goals first | done | rfl | (simp [dO];done) | (split <;> rfl)
theorem frameO_4 {bs ds:List Nat} {W:Nat} (hd:dec bs=some (4,W)) (hds:bs.drop W=ds):frameO bs=match numsO 9 ds 4 with | none=>none | some (ns,r)=>okO ⟨4,ns.getD 0 0,ns.getD 2 0,ns.getD 1 0,ns.getD 3 0,0,false,[],[]⟩ r:=by
 unfold frameO bodyO
 simp only [hd,hds]
 rw [if_neg (by decide)]
 simp only [show nbit ((4:Nat):Int) 0=true from rfl,show nbit ((4:Nat):Int) 1=true from rfl,show nbit ((4:Nat):Int) 2=true from rfl,show nbit ((4:Nat):Int) 3=true from rfl,show nbit ((4:Nat):Int) 4=false from rfl,show nbit ((4:Nat):Int) 5=false from rfl,show nbit ((4:Nat):Int) 6=false from rfl,nO,fO,sO,numsO,okO,okD]
 cases h0:dec ds with
 | none=>simp only [h0]
 | some p =>
 obtain ⟨v0,W0⟩:=p
 simp only [h0]
 rw [if_neg (show ¬ (0=9∧1<v0) by omega)]
 try simp only
 cases h1:dec (List.drop W0 ds) with
 | none=>simp only [h1]
 | some p =>
 obtain ⟨v1,W1⟩:=p
 simp only [h1]
 rw [if_neg (show ¬ (1=9∧1<v1) by omega)]
 try simp only
 cases h2:dec (List.drop W1 (List.drop W0 ds)) with
 | none=>simp only [h2]
 | some p =>
 obtain ⟨v2,W2⟩:=p
 simp only [h2]
 rw [if_neg (show ¬ (2=9∧1<v2) by omega)]
 try simp only
 cases h3:dec (List.drop W2 (List.drop W1 (List.drop W0 ds))) with
 | none=>simp only [h3]
 | some p =>
 obtain ⟨v3,W3⟩:=p
 simp only [h3]
 rw [if_neg (show ¬ (3=9∧1<v3) by omega)]
 try simp only
 all_goals first | done | rfl | (simp [dO];done) | (split <;> rfl)
theorem frameO_5 {bs ds:List Nat} {W:Nat} (hd:dec bs=some (5,W)) (hds:bs.drop W=ds):frameO bs=match numsO 9 ds 2 with | none=>none | some (ns,r)=>okO ⟨5,ns.getD 0 0,0,ns.getD 1 0,0,0,false,[],[]⟩ r:=by
 unfold frameO bodyO
 simp only [hd,hds]
 rw [if_neg (by decide)]
 simp only [show nbit ((5:Nat):Int) 0=true from rfl,show nbit ((5:Nat):Int) 1=true from rfl,show nbit ((5:Nat):Int) 2=false from rfl,show nbit ((5:Nat):Int) 3=false from rfl,show nbit ((5:Nat):Int) 4=false from rfl,show nbit ((5:Nat):Int) 5=false from rfl,show nbit ((5:Nat):Int) 6=false from rfl,nO,fO,sO,numsO,okO,okD]
 cases h0:dec ds with
 | none=>simp only [h0]
 | some p =>
 obtain ⟨v0,W0⟩:=p
 simp only [h0]
 rw [if_neg (show ¬ (0=9∧1<v0) by omega)]
 try simp only
 cases h1:dec (List.drop W0 ds) with
 | none=>simp only [h1]
 | some p =>
 obtain ⟨v1,W1⟩:=p
 simp only [h1]
 rw [if_neg (show ¬ (1=9∧1<v1) by omega)]
 try simp only
 all_goals first | done | rfl | (simp [dO];done) | (split <;> rfl)
theorem frameO_6 {bs ds:List Nat} {W:Nat} (hd:dec bs=some (6,W)) (hds:bs.drop W=ds):frameO bs=match numsO 9 ds 1 with | none=>none | some (ns,r)=>okO ⟨6,0,0,ns.getD 0 0,0,0,false,[],[]⟩ r:=by
 unfold frameO bodyO
 simp only [hd,hds]
 rw [if_neg (by decide)]
 simp only [show nbit ((6:Nat):Int) 0=false from rfl,show nbit ((6:Nat):Int) 1=true from rfl,show nbit ((6:Nat):Int) 2=false from rfl,show nbit ((6:Nat):Int) 3=false from rfl,show nbit ((6:Nat):Int) 4=false from rfl,show nbit ((6:Nat):Int) 5=false from rfl,show nbit ((6:Nat):Int) 6=false from rfl,nO,fO,sO,numsO,okO,okD]
 cases h0:dec ds with
 | none=>simp only [h0]
 | some p =>
 obtain ⟨v0,W0⟩:=p
 simp only [h0]
 rw [if_neg (show ¬ (0=9∧1<v0) by omega)]
 try simp only
 all_goals first | done | rfl | (simp [dO];done) | (split <;> rfl)
theorem frameO_7 {bs ds:List Nat} {W:Nat} (hd:dec bs=some (7,W)) (hds:bs.drop W=ds):frameO bs=match numsO 9 ds 2 with | none=>none | some (ns,r)=>okO ⟨7,ns.getD 0 0,0,ns.getD 1 0,0,0,false,[],[]⟩ r:=by
 unfold frameO bodyO
 simp only [hd,hds]
 rw [if_neg (by decide)]
 simp only [show nbit ((7:Nat):Int) 0=true from rfl,show nbit ((7:Nat):Int) 1=true from rfl,show nbit ((7:Nat):Int) 2=false from rfl,show nbit ((7:Nat):Int) 3=false from rfl,show nbit ((7:Nat):Int) 4=false from rfl,show nbit ((7:Nat):Int) 5=false from rfl,show nbit ((7:Nat):Int) 6=false from rfl,nO,fO,sO,numsO,okO,okD]
 cases h0:dec ds with
 | none=>simp only [h0]
 | some p =>
 obtain ⟨v0,W0⟩:=p
 simp only [h0]
 rw [if_neg (show ¬ (0=9∧1<v0) by omega)]
 try simp only
 cases h1:dec (List.drop W0 ds) with
 | none=>simp only [h1]
 | some p =>
 obtain ⟨v1,W1⟩:=p
 simp only [h1]
 rw [if_neg (show ¬ (1=9∧1<v1) by omega)]
 try simp only
 all_goals first | done | rfl | (simp [dO];done) | (split <;> rfl)
theorem frameO_8 {bs ds:List Nat} {W:Nat} (hd:dec bs=some (8,W)) (hds:bs.drop W=ds):frameO bs=match numsO 1 ds 2 with | none=>none | some (ns,r)=>okO ⟨8,0,0,ns.getD 0 0,0,0,(ns.getD 1 0 == 1),[],[]⟩ r:=by
 unfold frameO bodyO
 simp only [hd,hds]
 rw [if_neg (by decide)]
 simp only [show nbit ((8:Nat):Int) 0=false from rfl,show nbit ((8:Nat):Int) 1=true from rfl,show nbit ((8:Nat):Int) 2=false from rfl,show nbit ((8:Nat):Int) 3=false from rfl,show nbit ((8:Nat):Int) 4=true from rfl,show nbit ((8:Nat):Int) 5=false from rfl,show nbit ((8:Nat):Int) 6=false from rfl,nO,fO,sO,numsO,okO,okD]
 cases h0:dec ds with
 | none=>simp only [h0]
 | some p =>
 obtain ⟨v0,W0⟩:=p
 simp only [h0]
 rw [if_neg (show ¬ (0=1∧1<v0) by omega)]
 try simp only
 cases h1:dec (List.drop W0 ds) with
 | none=>simp only [h1]
 | some p =>
 obtain ⟨v1,W1⟩:=p
 simp only [h1]
 by_cases hv:1<v1
 ·simp only [hv,if_true,and_self]
 ·skip
  simp only [hv,and_false,if_false]
  rw [show decide (v1=1)=((v1:Int) == 1) from by by_cases h:v1=1 <;> simp [h] <;> omega]
  all_goals first | done | rfl | (simp [dO];done) | (split <;> rfl)
theorem frameO_9 {bs ds:List Nat} {W:Nat} (hd:dec bs=some (9,W)) (hds:bs.drop W=ds):frameO bs=match numsO 9 ds 0 with | none=>none | some (ns,r)=>okD (fun d=>⟨9,0,0,0,0,0,false,d,[]⟩) r:=by
 unfold frameO bodyO
 simp only [hd,hds]
 rw [if_neg (by decide)]
 simp only [show nbit ((9:Nat):Int) 0=false from rfl,show nbit ((9:Nat):Int) 1=false from rfl,show nbit ((9:Nat):Int) 2=false from rfl,show nbit ((9:Nat):Int) 3=false from rfl,show nbit ((9:Nat):Int) 4=false from rfl,show nbit ((9:Nat):Int) 5=true from rfl,show nbit ((9:Nat):Int) 6=false from rfl,nO,fO,sO,numsO,okO,okD]
 all_goals first | done | rfl | (simp [dO];done) | (split <;> rfl)
theorem frameO_10 {bs ds:List Nat} {W:Nat} (hd:dec bs=some (10,W)) (hds:bs.drop W=ds):frameO bs=match numsO 9 ds 1 with | none=>none | some (ns,r)=>okO ⟨10,ns.getD 0 0,0,0,0,0,false,[],[]⟩ r:=by
 unfold frameO bodyO
 simp only [hd,hds]
 rw [if_neg (by decide)]
 simp only [show nbit ((10:Nat):Int) 0=true from rfl,show nbit ((10:Nat):Int) 1=false from rfl,show nbit ((10:Nat):Int) 2=false from rfl,show nbit ((10:Nat):Int) 3=false from rfl,show nbit ((10:Nat):Int) 4=false from rfl,show nbit ((10:Nat):Int) 5=false from rfl,show nbit ((10:Nat):Int) 6=false from rfl,nO,fO,sO,numsO,okO,okD]
 cases h0:dec ds with
 | none=>simp only [h0]
 | some p =>
 obtain ⟨v0,W0⟩:=p
 simp only [h0]
 rw [if_neg (show ¬ (0=9∧1<v0) by omega)]
 try simp only
 all_goals first | done | rfl | (simp [dO];done) | (split <;> rfl)
theorem frameO_11 {bs ds:List Nat} {W:Nat} (hd:dec bs=some (11,W)) (hds:bs.drop W=ds):frameO bs=match numsO 9 ds 1 with | none=>none | some (ns,r)=>okO ⟨11,ns.getD 0 0,0,0,0,0,false,[],[]⟩ r:=by
 unfold frameO bodyO
 simp only [hd,hds]
 rw [if_neg (by decide)]
 simp only [show nbit ((11:Nat):Int) 0=true from rfl,show nbit ((11:Nat):Int) 1=false from rfl,show nbit ((11:Nat):Int) 2=false from rfl,show nbit ((11:Nat):Int) 3=false from rfl,show nbit ((11:Nat):Int) 4=false from rfl,show nbit ((11:Nat):Int) 5=false from rfl,show nbit ((11:Nat):Int) 6=false from rfl,nO,fO,sO,numsO,okO,okD]
 cases h0:dec ds with
 | none=>simp only [h0]
 | some p =>
 obtain ⟨v0,W0⟩:=p
 simp only [h0]
 rw [if_neg (show ¬ (0=9∧1<v0) by omega)]
 try simp only
 all_goals first | done | rfl | (simp [dO];done) | (split <;> rfl)
theorem frameO_12 {bs ds:List Nat} {W:Nat} (hd:dec bs=some (12,W)) (hds:bs.drop W=ds):frameO bs=match numsO 9 ds 1 with | none=>none | some (ns,r)=>okO ⟨12,0,0,ns.getD 0 0,0,0,false,[],[]⟩ r:=by
 unfold frameO bodyO
 simp only [hd,hds]
 rw [if_neg (by decide)]
 simp only [show nbit ((12:Nat):Int) 0=false from rfl,show nbit ((12:Nat):Int) 1=true from rfl,show nbit ((12:Nat):Int) 2=false from rfl,show nbit ((12:Nat):Int) 3=false from rfl,show nbit ((12:Nat):Int) 4=false from rfl,show nbit ((12:Nat):Int) 5=false from rfl,show nbit ((12:Nat):Int) 6=false from rfl,nO,fO,sO,numsO,okO,okD]
 cases h0:dec ds with
 | none=>simp only [h0]
 | some p =>
 obtain ⟨v0,W0⟩:=p
 simp only [h0]
 rw [if_neg (show ¬ (0=9∧1<v0) by omega)]
 try simp only
 all_goals first | done | rfl | (simp [dO];done) | (split <;> rfl)
/-- What read tells. -/
def ReadRP (bs:List Nat) (w:World) (e:Ending) (w':World):Prop :=
 Below w.heap.size w w' ∧
 (frameO bs=none→∃ f A n c A2 n2 c2,∃ er:Int,er≠0∧e=.returned (.tuple #[frA f A n c A2 n2 c2,.slice none 0 0,.int .i64 er])) ∧
 (∀ f r,frameO bs=some (f,r)→∃ A n c A2 n2 c2 A3 c3,e=.returned (.tuple #[frA f A n c A2 n2 c2,.slice A3 r.length c3,.int .i64 0])∧f.data.length=n∧f.spans.length=n2 * 2∧n≤120∧n2≤8∧w'.ownsRow w.heap.size 5 1 (.slice A n c) n (bv f.data)∧w'.ownsRow w.heap.size 67 2 (.slice A2 n2 c2) n2 (ints f.spans)∧r.length≤c3∧RdT w' w'.heap.size A3 r.length r)
theorem results_row3 {fn:Func} {p u v:Tmp} {ty:TypeId} (h:fn.results=#[.cell p ty,.tmp u,.tmp v]) (tmps:Array Value) (w:World) (g:Nat) (cs:Array Value) {P:Program}
  (hp:tmps.getD p undef=.pointer (some ⟨g,0,none⟩)) (hrun:(loadVar ty ⟨g,0,none⟩).run P w=.ok (.agg cs) w) :
  (results fn tmps).run P w=.ok (.tuple #[.agg cs,tmps.getD u undef,tmps.getD v undef]) w:=by
 have hp':tmps[p]?.getD undef=.pointer (some ⟨g,0,none⟩):=by simpa using hp
 simp [results,h,hp',asAddr,hrun]
/-- The reader's loop over numbers, in memory. -/
structure RdLp (w wr:World) (fl:Nat) (ds:List Nat) (j:Nat) (ns:List Int) (r:List Nat) (A1:Option Addr) (c1:Nat) (gl:Nat) (k:Int):Prop where
 run:numsO fl ds j=some (ns,r)
 own:wr.ownsRow w.heap.size 5 1 (.slice A1 r.length c1) r.length (bv r)
 cap:r.length≤c1
 h0:wr.heap[w.heap.size]?=some (.cells #[.int .i64 0,.int .i64 0,.int .i64 0,.int .i64 0,.int .i64 0,.int .i64 0,.bool false,.slice none 0 0,.slice none 0 0] 44 (0,0))
 hf:wr.heap[w.heap.size+1]?=some (.cells #[.int .i64 k,.int .i64 0,.int .i64 0,.int .i64 0,.int .i64 0,.int .i64 0,.bool false,.slice none 0 0,.slice none 0 0] 44 (0,0))
 hl:wr.heap[gl]?=some (.cells #[.int .i64 (ns.getD 0 0),.int .i64 (ns.getD 1 0),.int .i64 (ns.getD 2 0),.int .i64 (ns.getD 3 0)] 103 (0,0))
 bel:Below w.heap.size w wr
theorem okO_no {f:Fr} {r:List Nat} (h:rightB f=false):okO f r=none:=by unfold okO;rw [if_neg (by rw [h];decide)]
theorem okO_yes {f:Fr} {r:List Nat} (h:rightB f=true):okO f r=some (f,r):=by unfold okO;rw [if_pos h]
theorem okD_some {f:List Nat→Fr} {r d r2:List Nat} (h:dO true r=some (d,r2)):okD f r=okO (f d) r2:=by unfold okD;rw [h]
theorem okD_none {f:List Nat→Fr} {r:List Nat} (h:dO true r=none):okD f r=none:=by unfold okD;rw [h]
/-- What data tells. -/
def DataRP (bs:List Nat) (w:World) (e:Ending) (w':World):Prop :=
 Below w.heap.size w w' ∧
 ((dO true bs=none∧∃ er:Int,er≠0∧e=.returned (.tuple #[.slice none 0 0,.slice none 0 0,.int .i64 er])) ∨
  ∃ d r,dO true bs=some (d,r)∧∃ A1 c1 A2 c2,e=.returned (.tuple #[.slice A1 d.length c1,.slice A2 r.length c2,.int .i64 0])∧d.length≤120∧w'.ownsRow w.heap.size 5 1 (.slice A1 d.length c1) d.length (bv d)∧r.length≤c2∧RdT w' w'.heap.size A2 r.length r)
theorem dO_mem {bs d r:List Nat} (h:dO true bs=some (d,r)):∀ c ∈ d,c ∈ bs:=by
 unfold dO at h
 simp only at h
 split at h
 ·cases h
 ·split at h
  ·cases h
  ·simp only [Option.some.injEq,Prod.mk.injEq] at h
   rw [← h.1]
   exact fun c hc=>List.mem_of_mem_drop (List.mem_of_mem_take hc)
theorem rdata_any (bs:List Nat) (B:Nat) (A:Option Addr) (cap:Nat) (w:World) (hx:Rd w B A bs.length (bv bs)) (hB:B≤w.heap.size) (hb:∀ c ∈ bs,c<256) (hn:bs.length≤cap) (hm:bs.length≤140737488355328) :
  Calls Tryd.prog 81 #[.slice A bs.length cap] w (DataRP bs w):=by
 cases hd:dec bs with
 | none =>
   refine (rdata_short bs B A cap w hx hB hb hn hm hd).mono ?_
   rintro e w' ⟨rfl,hb2⟩
   exact ⟨hb2,.inl ⟨by unfold dO;simp only [hd],3,by decide,rfl⟩⟩
 | some p =>
   obtain ⟨v,W⟩:=p
   by_cases hv:120<v
   ·refine (rdata_form bs B A cap w hx hB hb hn hm v W hd hv).mono ?_
    rintro e w' ⟨rfl,hb2⟩
    exact ⟨hb2,.inl ⟨by unfold dO;simp only [hd];rw [if_pos (.inl hv)],2,by decide,rfl⟩⟩
   ·by_cases hl:bs.length - W<v
    ·refine (rdata_less bs B A cap w hx hB hb hn hm v W hd (by omega) hl).mono ?_
     rintro e w' ⟨rfl,hb2⟩
     exact ⟨hb2,.inl ⟨by unfold dO;simp only [hd];rw [if_pos (.inr hl)],3,by decide,rfl⟩⟩
    ·refine (rdata_ok bs B A cap w hx hB hb hn hm v W hd (by omega) (by omega)).mono ?_
     rintro e w' ⟨v1,A2,c2,rfl,h1,h2,h3,h4⟩
     have e1:((bs.drop W).take v).length=v:=by rw [List.length_take,List.length_drop];omega
     have e2:((bs.drop W).drop v).length=bs.length - W - v:=by rw [List.length_drop,List.length_drop]
     obtain ⟨A1,c1,rfl,_,_,_,_⟩:=own_form h1
     exact ⟨h4,.inr ⟨_,_,by unfold dO;simp only [hd];rw [if_neg (by omega)],A1,c1,A2,c2,by rw [e1,e2],by rw [e1];omega,by rw [e1];exact h1,by rw [e2];exact h2,by rw [e2];exact h3⟩⟩
/-- A frame's nine cells, written one by one. -/
def put9 (w:World) (g:Nat) (x0 x1 x2 x3 x4 x5 x6 x7 x8:Value):World:=(((((((((w.setCell ⟨g,0,none⟩ x0).setCell ⟨g,1,none⟩ x1).setCell ⟨g,2,none⟩ x2).setCell ⟨g,3,none⟩ x3).setCell ⟨g,4,none⟩ x4).setCell ⟨g,5,none⟩ x5).setCell ⟨g,6,none⟩ x6).setCell ⟨g,7,none⟩ x7).setCell ⟨g,8,none⟩ x8)
theorem put9_heap {w:World} {g:Nat} {t:TypeId} {u0 u1 u2 u3 u4 u5 u6 u7 u8:Value} (x0 x1 x2 x3 x4 x5 x6 x7 x8:Value) (h:w.heap[g]?=some (.cells #[u0,u1,u2,u3,u4,u5,u6,u7,u8] t (0,0))):(put9 w g x0 x1 x2 x3 x4 x5 x6 x7 x8).heap[g]?=some (.cells #[x0,x1,x2,x3,x4,x5,x6,x7,x8] t (0,0)):=by
 unfold put9
 have h1:(w.setCell ⟨g,0,none⟩ x0).heap[g]?=some (.cells #[x0,u1,u2,u3,u4,u5,u6,u7,u8] t (0,0)):=heap_setCell_same _ g 0 _ _ x0 h
 generalize hw1:(w.setCell ⟨g,0,none⟩ x0)=w1 at h1 ⊢
 have h2:(w1.setCell ⟨g,1,none⟩ x1).heap[g]?=some (.cells #[x0,x1,u2,u3,u4,u5,u6,u7,u8] t (0,0)):=heap_setCell_same _ g 1 _ _ x1 h1
 generalize hw2:(w1.setCell ⟨g,1,none⟩ x1)=w2 at h2 ⊢
 have h3:(w2.setCell ⟨g,2,none⟩ x2).heap[g]?=some (.cells #[x0,x1,x2,u3,u4,u5,u6,u7,u8] t (0,0)):=heap_setCell_same _ g 2 _ _ x2 h2
 generalize hw3:(w2.setCell ⟨g,2,none⟩ x2)=w3 at h3 ⊢
 have h4:(w3.setCell ⟨g,3,none⟩ x3).heap[g]?=some (.cells #[x0,x1,x2,x3,u4,u5,u6,u7,u8] t (0,0)):=heap_setCell_same _ g 3 _ _ x3 h3
 generalize hw4:(w3.setCell ⟨g,3,none⟩ x3)=w4 at h4 ⊢
 have h5:(w4.setCell ⟨g,4,none⟩ x4).heap[g]?=some (.cells #[x0,x1,x2,x3,x4,u5,u6,u7,u8] t (0,0)):=heap_setCell_same _ g 4 _ _ x4 h4
 generalize hw5:(w4.setCell ⟨g,4,none⟩ x4)=w5 at h5 ⊢
 have h6:(w5.setCell ⟨g,5,none⟩ x5).heap[g]?=some (.cells #[x0,x1,x2,x3,x4,x5,u6,u7,u8] t (0,0)):=heap_setCell_same _ g 5 _ _ x5 h5
 generalize hw6:(w5.setCell ⟨g,5,none⟩ x5)=w6 at h6 ⊢
 have h7:(w6.setCell ⟨g,6,none⟩ x6).heap[g]?=some (.cells #[x0,x1,x2,x3,x4,x5,x6,u7,u8] t (0,0)):=heap_setCell_same _ g 6 _ _ x6 h6
 generalize hw7:(w6.setCell ⟨g,6,none⟩ x6)=w7 at h7 ⊢
 have h8:(w7.setCell ⟨g,7,none⟩ x7).heap[g]?=some (.cells #[x0,x1,x2,x3,x4,x5,x6,x7,u8] t (0,0)):=heap_setCell_same _ g 7 _ _ x7 h7
 generalize hw8:(w7.setCell ⟨g,7,none⟩ x7)=w8 at h8 ⊢
 have h9:(w8.setCell ⟨g,8,none⟩ x8).heap[g]?=some (.cells #[x0,x1,x2,x3,x4,x5,x6,x7,x8] t (0,0)):=heap_setCell_same _ g 8 _ _ x8 h8
 generalize hw9:(w8.setCell ⟨g,8,none⟩ x8)=w9 at h9 ⊢
 exact h9
theorem grown_more {a b:World} {p:Nat} (h:a.grownBy b (some p)) (o:Nat) (u:Value):a.grownBy (b.setCell ⟨p,o,none⟩ u) (some p):=grown_trans h (grown_set u)
theorem put9_grown (w:World) (g:Nat) (x0 x1 x2 x3 x4 x5 x6 x7 x8:Value):w.grownBy (put9 w g x0 x1 x2 x3 x4 x5 x6 x7 x8) (some g):=by
 unfold put9
 refine grown_more ?_ 8 x8
 refine grown_more ?_ 7 x7
 refine grown_more ?_ 6 x6
 refine grown_more ?_ 5 x5
 refine grown_more ?_ 4 x4
 refine grown_more ?_ 3 x3
 refine grown_more ?_ 2 x2
 refine grown_more ?_ 1 x1
 exact grown_set x0
theorem own_put9 {w w':World} {base size n g t2:Nat} {e:TypeId} {v:Value} {xs:List Value} {cur:Array Value} {fr:Nat × Nat} (h:w.ownsRow base e size v n xs) (gr:w.grownBy w' (some g)) (hh:w.heap[g]?=some (.cells cur t2 fr)) (hne:e≠t2):w'.ownsRow base e size v n xs:=by
 refine h.kept gr ?_
 have:=own_other h hh hne
 first | exact .inr (Ne.symm this) | exact .inr this | exact .inr (fun e=>this e) | exact .inr (fun e=>this e.symm)
end Go.Proofs.YtccljifichaieaaDoor.Rv
