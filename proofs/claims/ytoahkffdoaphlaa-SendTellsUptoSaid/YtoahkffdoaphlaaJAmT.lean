/- Joined texts. Conditions: as each theorem lists them. -/
import Derived.Test.YtoahkffdoaphlaaJAm1
import Derived.LoopN
import Derived.Orders
import Derived.OrdersHeld
import Derived.Test.YtoahkffdoaphlaaJLp
import Derived.ProofKit
import Derived.OpenShut
import Derived.LaidMore
import Derived.Carry
import Derived.Lib.LaidTab
import Derived.Stop.Joined
set_option linter.unusedSimpArgs false
set_option linter.unusedVariables false
set_option maxRecDepth 100000
set_option maxHeartbeats 80000000
namespace Go.Am
open Go Go.RowKit
variable {P:Program} {G:Nat} {w0 w:World} {c:Ctx} {g:Gh} {S S':St} {a ac:Act} {o:Oper} {v:Value}
/-- []T{}. -/
def lit0A (P:Program) (S:St) (t:TypeId):Option (Value × St) :=
 match P.underlying t with
 | some (.slice e)=>match P.info? e with
   | some i=>match S.alloc i.size [] with
     | some (b,S')=>some (.slice (some ⟨b,0,none⟩) 0 1,S')
     | none=>none
   | none=>none
 | _=>none
theorem lit0_done (h:Pre G w0 c g S w a ac o) (t:TypeId) (ho:o.op=.buildSlice t 0 #[]) (hv:lit0A P S t=some (v,S')):Done P G w0 ac o c w v S':=by
 unfold lit0A at hv
 split at hv
 ·rename_i e hu
  split at hv
  ·rename_i i hi
   split at hv
   ·rename_i b S1 hs
    cases hv
    obtain ⟨rfl,c',g',hle,hn,hloc,hes,hcz,hR'⟩:=h.rel.alloc hs (cur:=#[]) (e:=e) (by simp) (fun j x y hx _=>by simp at hx)
    have hvr:=VR.slice (c:=c') c.n 0 0 1 0 (by omega) (Nat.le_refl _) (.inr rfl) (by rw [hloc];simp)
    rw [hloc] at hvr
    refine done_value (s:=Instr.buildSlice t 0 #[]) (by simp only [execOp,ho];simp) ?_ hle hR' hvr
    have h24:¬ (0 * i.size > 2 ^ 24):=by omega
    have h0:0 * i.size=0:=Nat.zero_mul _
    simp only [Instr.buildSlice,Sem.run_bind,run_underlying hu,Result.andThen_ok,run_sizeOf hi,if_neg h24,if_pos h0,Sem.run_pure]
    rw [h0]
    have em:(Array.range 0).map (fun x=>(#[]:Array Value)[x % (#[]:Array Value).size]!)=#[]:=by simp
    rw [em]
    rfl
   ·cases hv
  ·cases hv
 ·cases hv
/-- The family of a block is read alone from here on. -/
def St.mark (S:St) (b:Nat):Option St :=
 match S.blks.get b with
 | some k=>match S.fams.get k.fam with
   | some f=>if f.ro=false∧k.fam<limit then some { S with fams:=S.fams.set depth k.fam { f with ro:=true } } else none
   | none=>none
 | none=>none
theorem heap_freeze (w:World) (x o:Nat) (cur:Array Value) (e:TypeId) (h:w.heap[x]?=some (.cells cur e (0,0))) (y:Nat) :
  (w.freeze ⟨x,o,none⟩ 1).heap[y]?=if y=x then some (.cells cur e (o,o+1)) else w.heap[y]?:=by
 have e1:(w.freeze ⟨x,o,none⟩ 1).heap=w.heap.modify x (fun
   | .cells c elem (lo,hi)=>.cells c elem (if lo == hi then (o,o+1) else (min lo o,max hi (o+1)))
   | o=>o):=by
  unfold World.freeze
  rw [if_neg (by decide)]
  rfl
 rw [e1,Array.getElem?_modify]
 by_cases hy:y=x
 ·subst hy
  rw [if_pos rfl,if_pos rfl,h]
  rfl
 ·rw [if_neg hy,if_neg (fun e=>hy e.symm)]
theorem Rel.mark (h:Rel G w0 c g S w) {b:Nat} (hs:S.mark b=some S') :
  b<c.n∧∃ cur e,w.heap[(c.loc b).1]?=some (.cells cur e (0,0))∧∃ g',∀ off,Rel G w0 c g' S' (w.freeze ⟨(c.loc b).1,off,none⟩ 1):=by
 unfold St.mark at hs
 split at hs
 ·rename_i k hk
  split at hs
  ·rename_i f hf
   split at hs
   ·rename_i hc
    obtain ⟨hro,hlim⟩:=hc
    cases hs
    obtain ⟨f',cur,e,fr,ok⟩:=h.blk b k hk
    obtain rfl:f'=f:=by have:=ok.fam.symm.trans hf;exact Option.some.inj this
    obtain ⟨hown,rfl,hfo⟩:=ok.own hro
    refine ⟨ok.lt,cur,e,ok.heap,⟨fun y=>if g.own y=some k.fam then none else g.own y,g.sh⟩,fun off=>?_⟩
    have hhp:=heap_freeze w (c.loc b).1 off cur e ok.heap
    have hsz:(w.freeze ⟨(c.loc b).1,off,none⟩ 1).heap.size=w.heap.size:=by
     unfold World.freeze
     rw [if_neg (by decide)]
     simp
    have hx:=h.own _ _ hown
    refine ⟨h.n,h.glob,⟨?_,?_,?_,?_,?_⟩,fun b2 k2 hk2=>?_,fun x φ hg=>?_,fun φ f2 hf2=>?_,fun b2 hb2=>?_⟩
    ·unfold World.freeze;rw [if_neg (by decide)];exact h.below.os
    ·unfold World.freeze;rw [if_neg (by decide)];exact h.below.tape
    ·unfold World.freeze;rw [if_neg (by decide)];exact h.below.output
    ·rw [hsz];exact h.below.size
    ·intro j hj
     rw [hhp,if_neg (by omega)]
     exact h.below.block j hj
    ·obtain ⟨f2,cur2,e2,fr2,ok2⟩:=h.blk b2 k2 hk2
     by_cases hfam:k2.fam=k.fam
     ·have hf2:f2=f':=by
       have:=ok2.fam
       rw [hfam,hf] at this
       exact (Option.some.inj this).symm
      subst hf2
      obtain ⟨hown2,hfr2,_⟩:=ok2.own hro
      refine ⟨{ f2 with ro:=true },cur2,e2,if (c.loc b2).1=(c.loc b).1 then (off,off+1) else fr2,ok2.lt,ok2.es,by simp [hfam,Fam.get_set _ _ _ hlim],?_,ok2.size,fun hr=>(by cases hr),fun _=>?_,ok2.fit,ok2.ep,ok2.hw,ok2.cells⟩
      ·rw [hhp]
       by_cases hl:(c.loc b2).1=(c.loc b).1
       ·rw [if_pos hl,if_pos hl]
        have:=ok2.heap
        rw [hl,ok.heap] at this
        simp only [Option.some.injEq,Obj.cells.injEq] at this
        rw [this.1,this.2.1]
       ·rw [if_neg hl,if_neg hl]
        exact ok2.heap
      ·show (if g.own (c.loc b2).1=some k.fam then none else g.own (c.loc b2).1)=none
       rw [if_pos (by rw [hown2,hfam])]
     ·have hl:(c.loc b2).1≠(c.loc b).1:=fun e=>by
       cases hr:f2.ro with
       | false =>
         have:=(ok2.own hr).1
         rw [e,hown] at this
         exact hfam (Option.some.inj this).symm
       | true =>
         have:=ok2.ro hr
         rw [e,hown] at this
         cases this
      refine ⟨f2,cur2,e2,fr2,ok2.lt,ok2.es,by simp [Fam.get_set _ _ _ hlim,hfam,ok2.fam],by rw [hhp,if_neg hl];exact ok2.heap,ok2.size,fun hr=>?_,fun hr=>?_,ok2.fit,ok2.ep,ok2.hw,ok2.cells⟩
      ·obtain ⟨h1,h2,h3⟩:=ok2.own hr
       refine ⟨?_,h2,h3⟩
       show (if g.own (c.loc b2).1=some k.fam then none else g.own (c.loc b2).1)=_
       rw [if_neg (by rw [h1];simpa using hfam)]
       exact h1
      ·show (if g.own (c.loc b2).1=some k.fam then none else g.own (c.loc b2).1)=none
       rw [ok2.ro hr]
       simp
    ·have hg':g.own x=some φ:=by
      simp only at hg
      split at hg
      ·cases hg
      ·exact hg
     obtain ⟨h1,h2,h3⟩:=h.own x φ hg'
     exact ⟨h1,by rw [hsz];exact h2,h3⟩
    ·simp only at hf2
     rw [Fam.get_set _ _ _ hlim] at hf2
     split at hf2
     ·rename_i e1;rw [e1];exact h.fam _ _ hf
     ·exact h.fam _ _ hf2
    ·rw [hsz];exact h.all b2 hb2
   ·cases hs
  ·cases hs
 ·cases hs
/-- The conversion of a literal row of bytes to its own type, which stands behind a constant text's bytes. -/
def markA (P:Program) (S:St) (s d:TypeId) (x:Value):Option St :=
 if s=d then match P.underlying s,x with
  | some (.slice e),.slice (some ⟨b,_,none⟩) n _=>match P.underlying e with
    | some (.int .u8)=>if n≠0 then S.mark b else none
    | _=>none
  | _,_=>none
 else none
theorem mark_done (h:Pre G w0 c g S w a ac o) (s d:TypeId) (x:Operand) (ho:o.op=.convert s d x) (hv:markA P S s d (a.eval x)=some S'):Done P G w0 ac o c w (a.eval x) S':=by
 have hc:=h.ev (x:=x) (by simp [ho,Op.operands])
 unfold markA at hv
 split at hv
 ·rename_i hsd
  subst hsd
  split at hv
  ·rename_i e b off n k hu hx
   split at hv
   ·rename_i he
    split at hv
    ·rename_i hn0
     rw [hx] at hc ⊢
     obtain ⟨hb,cur,e',hheap,g',hR'⟩:=h.rel.mark hv
     generalize hux:ac.eval x=ux at hc
     cases hc with
     | slice _ _ _ _ m hbn hn hk hcap =>
       have hsh:w.shape? (c.loc b).1=some (e',cur.size):=by unfold World.shape?;rw [hheap]
       refine done_value (s:=convert s s (ac.eval x)) (u:=.slice (some ⟨(c.loc b).1,(c.loc b).2+off,none⟩) n m) (by simp only [execOp,ho]) ?_ (Ctx.le.refl _) (hR' cur.size) (.slice b off n k m hbn hn hk hcap)
       rw [hux]
       simp [convert,run_underlying hu,run_underlying he,markStringish,hsh]
     | empty=>exact absurd rfl hn0
    ·cases hv
   ·cases hv
  ·cases hv
 ·cases hv
variable {P:Program} {G:Nat} {w0 w:World} {c:Ctx} {g:Gh} {S S':St} {a ac:Act} {o:Oper} {v:Value}
/-- copy(d, x), x a slice. -/
def copyA (P:Program) (S:St) (t:TypeId) (d x:Value):Option (Value × St) :=
 match P.underlying t,d,x with
 | some (.slice e),.slice _ n _,.slice _ m _ =>
   match P.info? e with
   | some i =>
     if Nat.min m n=0 then some (goInt ((0:Nat):Int),S)
     else match d,x with
      | .slice (some ⟨b,off,none⟩) _ _,.slice (some ⟨b2,off2,none⟩) _ _=>match S.rd b2 off2 (Nat.min m n * i.size) with
        | some l=>(S.wr b off l).map fun S'=>(goInt ((Nat.min m n:Nat):Int),S')
        | none=>none
      | _,_=>none
   | none=>none
 | _,_,_=>none
theorem copy_nothing {t tx e:TypeId} {i:TypeInfo} (hu:P.underlying t=some (.slice e)) (hi:P.info? e=some i) (d s:Option Addr) (dLen dCap sLen sCap:Nat) (hn:Nat.min sLen dLen=0) (ty:TypeId) (w:World) :
  (Builtin.copy_ #[t,tx] ty #[.slice d dLen dCap,.slice s sLen sCap]).run P w=.ok (goInt ((0:Nat):Int)) w:=by
 have hl:∀ (x:Addr),(loadCells x 0).run P w=.ok #[] w:=fun x=>by simpa using run_loadCells_list (P:=P) w x [] (by simp)
 cases d <;> cases s <;> simp [Builtin.copy_,run_underlying hu,Builtin.lenOf,Builtin.firstCells,sizeOf,typeInfo,hi,hn,storeCells,hl]
theorem copy_done (h:Pre G w0 c g S w a ac o) (d x:Operand) (t tx:TypeId) (ho:o.op=.call { callee:=.builtin .copy,args:=#[d,x],argTypes:=#[t,tx] }) (hv:copyA P S t (a.eval d) (a.eval x)=some (v,S')):Done P G w0 ac o c w v S':=by
 have hd:=arg_ev h ho (x:=d) (by simp)
 have hx:=arg_ev h ho (x:=x) (by simp)
 have fin:∀ {u w' c' g'} ,(Builtin.copy_ #[t,tx] o.type #[ac.eval d,ac.eval x]).run P w=.ok u w'→c.le c'→Rel G w0 c' g' S' w'→VR c' v u→Done P G w0 ac o c w v S':=fun hr hc hR hvr =>
  builtin_done ho (s:=Builtin.copy_ #[t,tx] o.type #[ac.eval d,ac.eval x]) (fun cs=>by simp [builtin]) hr hc hR hvr
 unfold copyA at hv
 split at hv
 ·rename_i e ad n k ax m kx hu hdv hxv
  split at hv
  ·rename_i i hi
   split at hv
   ·rename_i hmin
    cases hv
    obtain ⟨ad',k',hd'⟩:∃ ad' k',ac.eval d=.slice ad' n k':=by
     rw [hdv] at hd
     generalize ac.eval d=ud at hd
     cases hd <;> exact ⟨_,_,rfl⟩
    obtain ⟨ax',kx',hx'⟩:∃ ax' kx',ac.eval x=.slice ax' m kx':=by
     rw [hxv] at hx
     generalize ac.eval x=ux at hx
     cases hx <;> exact ⟨_,_,rfl⟩
    exact fin (by rw [hd',hx'];exact copy_nothing hu hi _ _ _ _ _ _ hmin _ w) (Ctx.le.refl _) h.rel (.int _ _)
   ·rename_i hmin
    split at hv
    ·rename_i b off n1 k1 b2 off2 m1 kx1 hd1 hx1
     rw [hdv] at hd1
     rw [hxv] at hx1
     cases hd1
     cases hx1
     split at hv
     ·rename_i l hl
      rw [Option.map_eq_some_iff] at hv
      obtain ⟨S1,hw,he⟩:=hv
      cases he
      obtain ⟨hb2,hll,us,hul,hcell,hvr⟩:=h.rel.rd hl
      obtain ⟨cur,e',hheap,hfit,hb,hone,hR'⟩:=h.rel.wr hw (by omega) hvr
      have h1:∀ u ∈ us,u.oneCell'=true:=list_one (by omega) hvr hone
      rw [hdv] at hd
      rw [hxv] at hx
      generalize hdu:ac.eval d=ud at hd
      generalize hxu:ac.eval x=ux at hx
      cases hd with
      | empty=>exact absurd (Nat.min_eq_right (Nat.zero_le _)) hmin
      | slice _ _ _ _ dcap hdb hdn =>
        cases hx with
        | empty=>exact absurd (Nat.min_eq_left (Nat.zero_le _)) hmin
        | slice _ _ _ _ xcap hxb hxn =>
          have hf:=run_firstCells_some (P:=P) w i.size (Nat.min m n) ⟨(c.loc b2).1,(c.loc b2).2+off2,none⟩ m xcap us hul fun j u hu=>by rw [Addr.add_lit];exact hcell j u hu
          have hst:=run_storeCells_at P (c.loc b).1 ((c.loc b).2+off) e' us 0 cur w hheap (by simpa using hfit) h1
          simp only [Nat.add_zero] at hst
          refine fin ?_ (Ctx.le.refl _) hR' (.int _ _)
          rw [hdu,hxu]
          simp [Builtin.copy_,run_underlying hu,Builtin.lenOf,sizeOf,typeInfo,hi,hf,hst,put]
          rfl
     ·cases hv
    ·cases hv
  ·cases hv
 ·cases hv
variable {P:Program} {G:Nat} {w0 w:World} {c:Ctx} {g:Gh} {S S':St} {a ac:Act} {o:Oper} {v:Value}
def pureA (P:Program) (a:Act) (o:Oper) (S:St):Option (Value × St):=(evPure P a o).map fun v=>(v,S)
/-- One operation that calls no function. -/
def evOp (P:Program) (a:Act) (o:Oper) (S:St):Option (Value × St) :=
 match o.op with
 | .move x | .assign x=>some (a.eval x,S)
 | .pick cc x y=>match a.eval cc with
   | .bool b=>some (cond b (a.eval x) (a.eval y),S)
   | _=>none
 | .extract x i=>match a.eval x with
   | .tuple vs=>(vs[i]?).map fun v=>(v,S)
   | _=>none
 | .load t x=>match a.eval x with
   | .pointer (some ⟨b,off,none⟩)=>(ldA P S t b off).map fun v=>(v,S)
   | _=>none
 | .store t x y=>match a.eval x with
   | .pointer (some ⟨b,off,none⟩)=>(stA P S t b off (a.eval y)).map fun S'=>(undef,S')
   | _=>none
 | .box _ x=>boxA S (a.eval x)
 | .alloc e=>match P.info? e with
   | some i=>match i.zero with
     | some z=>if af 8 z=true then boxA S z else none
     | none=>none
   | none=>none
 | .build t parts=>(buildA P t (parts.map fun (i,x)=>(i,a.eval x))).map fun v=>(v,S)
 | .buildSlice t len parts=>if len=0∧parts.size=0 then lit0A P S t else litA P S t len (parts.map fun (i,x)=>(i,a.eval x))
 | .makeSlice t x y=>match a.eval x,a.eval y with
   | .int _ l,.int _ m=>makeA P S t l m
   | _,_=>none
 | .slice t x lo hi mx=>match a.eval x with
   | .slice _ _ _=>(sliceA P S t (a.eval x) (lo.map a.eval) (hi.map a.eval) (mx.map a.eval)).map fun v=>(v,S)
   | _=>pureA P a o S
 | .fieldAddr t x f=>match P.underlying t,a.eval x with
   | some (.struct fs),.pointer (some ⟨b,off,none⟩)=>match fs[f]? with
     | some fd=>match P.info? fd.type with
       | some j=>if j.size≠0 then some (.pointer (some ⟨b,off+fd.offset,none⟩),S) else none
       | none=>none
     | none=>none
   | _,_=>none
 | .indexAddr t x y=>match a.eval y with
   | .int _ i=>(ixA P t (a.eval x) i).map fun v=>(v,S)
   | _=>none
 | .nilCheck x=>match a.eval x with
   | .pointer (some ad)=>some (.pointer (some ad),S)
   | _=>none
 | .field t x f=>match P.underlying t,a.eval x with
   | some (.struct fs),.agg cs=>match fs[f]? with
     | some fd=>(partA P fd.type cs fd.offset).map fun v=>(v,S)
     | none=>none
   | _,_=>none
 | .index t x y=>match P.underlying t,a.eval x,a.eval y with
   | some (.array len e),.agg cs,.int _ i=>match P.info? e with
     | some j=>if 0≤i∧i<len then (partA P e cs (i.toNat * j.size)).map fun v=>(v,S) else none
     | none=>none
   | _,_,_=>pureA P a o S
 | .convert s d x=>match a.eval x with
   | .slice _ _ _=>match strA P S s d (a.eval x) with
     | some v=>some (v,S)
     | none=>(markA P S s d (a.eval x)).map fun S'=>(a.eval x,S')
   | _=>pureA P a o S
 | .binOp op t x y _=>match a.eval x,a.eval y with
   | .int _ _,_=>pureA P a o S
   | _,_=>if op=.eql∨op=.neq then match nilA P t (a.eval x) (a.eval y) with
     | some b=>some (.bool (if op=.eql then b else !b),S)
     | none=>pureA P a o S
     else pureA P a o S
 | .call k=>match k.callee,k.args.toList,k.argTypes.toList with
   | .builtin .len,[x],[t]=>match lenA P t (a.eval x) with
     | some v=>some (v,S)
     | none=>pureA P a o S
   | .builtin .cap,[x],[t]=>(capA P t (a.eval x)).map fun v=>(v,S)
   | .builtin .append,[s,x],[t,tx]=>appA P S t tx (a.eval s) (a.eval x)
   | .builtin .copy,[d,x],[t,_]=>copyA P S t (a.eval d) (a.eval x)
   | _,_,_=>pureA P a o S
 | _=>pureA P a o S
theorem pureA_done (h:Pre G w0 c g S w a ac o) (hv:pureA P a o S=some (v,S')):Done P G w0 ac o c w v S':=by
 unfold pureA at hv
 rw [Option.map_eq_some_iff] at hv
 obtain ⟨v',hv',e⟩:=hv
 cases e
 exact evPure_done h.rel h.act h.opnd hv'
theorem evOp_done (h:Pre G w0 c g S w a ac o) (hv:evOp P a o S=some (v,S')):Done P G w0 ac o c w v S':=by
 have m1:∀ {x:Option Value},(x.map fun v=>(v,S))=some (v,S')→x=some v∧S'=S:=fun e=>by
  rw [Option.map_eq_some_iff] at e
  obtain ⟨v',h1,e⟩:=e
  cases e
  exact ⟨h1,rfl⟩
 unfold evOp at hv
 split at hv
 ·rename_i x ho;cases hv;exact move_done h x (.inl ho)
 ·rename_i x ho;cases hv;exact move_done h x (.inr ho)
 ·rename_i cc x y ho
  split at hv
  ·rename_i b hb;cases hv;exact pick_done h cc x y ho b hb
  ·cases hv
 ·rename_i x i ho
  split at hv
  ·rename_i vs hvs
   obtain ⟨h1,rfl⟩:=m1 hv
   exact extract_done h x i ho vs hvs h1
  ·cases hv
 ·rename_i t x ho
  split at hv
  ·rename_i b off hx
   obtain ⟨h1,rfl⟩:=m1 hv
   exact load_done h t x ho b off hx h1
  ·cases hv
 ·rename_i t x y ho
  split at hv
  ·rename_i b off hx
   rw [Option.map_eq_some_iff] at hv
   obtain ⟨S1,h1,e⟩:=hv
   cases e
   exact store_done h t x y ho b off hx h1
  ·cases hv
 ·rename_i e x ho;exact box_done h e x ho hv
 ·rename_i e ho
  split at hv
  ·rename_i i hi
   split at hv
   ·rename_i z hz
    split at hv
    ·rename_i haf;exact alloc_done h e ho i hi z hz haf hv
    ·cases hv
   ·cases hv
  ·cases hv
 ·rename_i t parts ho
  obtain ⟨h1,rfl⟩:=m1 hv
  exact build_done h t parts ho h1
 ·rename_i t len parts ho
  split at hv
  ·rename_i h0
   obtain ⟨rfl,hp⟩:=h0
   obtain rfl:parts=#[]:=Array.eq_empty_of_size_eq_zero hp
   exact lit0_done h t ho hv
  ·exact lit_done h t len parts ho hv
 ·rename_i t x y ho
  split at hv
  ·rename_i kl l km m hx hy;exact make_done h t x y ho kl km l m hx hy hv
  ·cases hv
 ·rename_i t x lo hi mx ho
  split at hv
  ·obtain ⟨h1,rfl⟩:=m1 hv
   exact slice_done h t x lo hi mx ho h1
  ·exact pureA_done h hv
 ·rename_i t x f ho
  split at hv
  ·rename_i fs b off hu hx
   split at hv
   ·rename_i fd hf
    split at hv
    ·rename_i j hj
     split at hv
     ·rename_i hsz;cases hv;exact fieldAddr_done h t x f ho fs hu fd hf j hj hsz b off hx
     ·cases hv
    ·cases hv
   ·cases hv
  ·cases hv
 ·rename_i t x y ho
  split at hv
  ·rename_i k i hy
   obtain ⟨h1,rfl⟩:=m1 hv
   exact indexAddr_done h t x y ho k i hy h1
  ·cases hv
 ·rename_i x ho
  split at hv
  ·rename_i ad hx;cases hv;exact nilCheck_done h x ho ad hx
  ·cases hv
 ·rename_i t x f ho
  split at hv
  ·rename_i fs cs hu hx
   split at hv
   ·rename_i fd hf
    obtain ⟨h1,rfl⟩:=m1 hv
    exact field_done h t x f ho fs hu fd hf cs hx h1
   ·cases hv
  ·cases hv
 ·rename_i t x y ho
  split at hv
  ·rename_i len e cs k i hu hx hy
   split at hv
   ·rename_i j hj
    split at hv
    ·rename_i hi
     obtain ⟨h1,rfl⟩:=m1 hv
     exact index_done h t x y ho len e hu j hj cs hx k i hy hi h1
    ·cases hv
   ·cases hv
  ·exact pureA_done h hv
 ·rename_i s d x ho
  split at hv
  ·split at hv
   ·rename_i v' hs
    cases hv
    exact str_done h s d x ho hs
   ·rw [Option.map_eq_some_iff] at hv
    obtain ⟨S1,h1,e⟩:=hv
    cases e
    exact mark_done h s d x ho h1
  ·exact pureA_done h hv
 ·rename_i op t x y yt ho
  split at hv
  ·exact pureA_done h hv
  ·split at hv
   ·rename_i hop
    split at hv
    ·rename_i b hb;cases hv;exact nil_done h op t x y yt ho hop b hb
    ·exact pureA_done h hv
   ·exact pureA_done h hv
 ·rename_i k ho
  have arr:∀ {α:Type} (xs:Array α) (l:List α),xs.toList=l→xs=l.toArray:=fun xs l e=>by rw [← e]
  split at hv
  ·rename_i x t hc hargs hts
   split at hv
   ·rename_i v' hl
    cases hv
    exact len_done h x t (by rw [ho];cases k;simp only at hc hargs hts;rw [hc,arr _ _ hargs,arr _ _ hts]) hl
   ·exact pureA_done h hv
  ·rename_i x t hc hargs hts
   obtain ⟨h1,rfl⟩:=m1 hv
   exact cap_done h x t (by rw [ho];cases k;simp only at hc hargs hts;rw [hc,arr _ _ hargs,arr _ _ hts]) h1
  ·rename_i s x t tx hc hargs hts
   exact app_done h s x t tx (by rw [ho];cases k;simp only at hc hargs hts;rw [hc,arr _ _ hargs,arr _ _ hts]) hv
  ·rename_i d x t tx hc hargs hts
   exact copy_done h d x t tx (by rw [ho];cases k;simp only at hc hargs hts;rw [hc,arr _ _ hargs,arr _ _ hts]) hv
  ·exact pureA_done h hv
 ·exact pureA_done h hv
variable {P:Program} {G:Nat} {w0 w:World} {c:Ctx} {g:Gh} {S S':St} {a ac:Act} {o:Oper} {v:Value}
/-- In every world the operation gives a value that v stands for, and the world stays. -/
def Still (P:Program) (c:Ctx) (ac:Act) (o:Oper) (v:Value):Prop:=∃ u,VR c v u∧∀ w:World,(execOp ac.eval o).run P w=.ok (.value u) w
theorem still_value {u:Value} {s:Sem Value} (he:execOp ac.eval o=(do pure (.value (← s)))) (hr:∀ w:World,s.run P w=.ok u w) (hv:VR c v u):Still P c ac o v :=
 ⟨u,hv,fun w=>by rw [he];simp [hr w]⟩
theorem move_still (h:Pre G w0 c g S w a ac o) (x:Operand) (ho:o.op=.move x∨o.op=.assign x):Still P c ac o (a.eval x):=by
 have hv:VR c (a.eval x) (ac.eval x):=h.ev (by rcases ho with e | e <;> simp [e,Op.operands])
 refine ⟨ac.eval x,hv,fun w=>?_⟩
 rcases ho with e | e <;> simp [execOp,e]
theorem evPure_still (h:Pre G w0 c g S w a ac o) (he:evPure P a o=some v):Still P c ac o v:=by
 unfold evPure at he
 split at he
 ·rename_i haf
  have hsel:∀ cs b,o.op≠.select cs b:=fun cs b e=>by rw [e] at he;cases he
  have hop:∀ x ∈ o.op.operands,ac.eval x=a.eval x:=fun x hx=>by
   have ho:=h.opnd
   rw [List.all_eq_true] at ho haf
   have hm:x ∈ o.op.operands.toList:=Array.mem_toList_iff.2 hx
   exact af_eq 8 _ _ (haf x hm) (eval_rel h.rel h.act (ho x hm))
  have key:∀ (r:Option Value),(match pureRun P (execOp a.eval o) with
   | some (.value v)=>if af 8 v=true then some v else none
   | _=>none)=some v→Still P c ac o v:=fun _ hk=>by
   split at hk
   ·rename_i v' hv'
    split at hk
    ·rename_i hav
     cases hk
     exact ⟨v,af_refl c 8 v hav,fun w=>by rw [execOp_congr o hsel hop];exact pureRun_run _ _ hv' w⟩
    ·cases hk
   ·cases hk
  split at he
  ·cases he
  ·exact key none he
 ·cases he
theorem slice_still (h:Pre G w0 c g S w a ac o) (t:TypeId) (x:Operand) (lo hi mx:Option Operand) (ho:o.op=.slice t x lo hi mx) (hv:sliceA P S t (a.eval x) (lo.map a.eval) (hi.map a.eval) (mx.map a.eval)=some v):Still P c ac o v:=by
 have hc:=h.ev (x:=x) (by simp [ho,Op.operands])
 have hlo:∀ y,lo=some y→VR c (a.eval y) (ac.eval y):=fun y e=>h.ev (by simp [ho,Op.operands,e])
 have hhi:∀ y,hi=some y→VR c (a.eval y) (ac.eval y):=fun y e=>h.ev (by simp [ho,Op.operands,e])
 have hmx:∀ y,mx=some y→VR c (a.eval y) (ac.eval y):=fun y e=>h.ev (by simp [ho,Op.operands,e])
 unfold sliceA at hv
 split at hv
 ·rename_i e b off n k hu hx
  split at hv
  ·rename_i i kb l h' m hi' hkb hbl hbh hbm
   split at hv
   ·rename_i hcnd
    obtain ⟨hsz,h1,h2,h3,hf⟩:=hcnd
    cases hv
    rw [hx] at hc
    obtain ⟨f,cur,e',fr,ok⟩:=h.rel.blk b kb hkb
    have hes:c.es b=i.size:=ok.es.trans hsz
    generalize hux:ac.eval x=ux at hc
    generalize hfix:(mx.map a.eval).isSome=fixed at hf
    have hfix2:(mx.map a.eval).isSome=true→(hi.map a.eval).isSome=true:=fun e=>hf (by rw [← hfix];exact e)
    cases hc with
    | slice _ _ _ _ cap hbn hn hk hcap =>
      have hb:=fun w:World=>bounds_run (P:=P) (cap:=cap) hbl hbh hbm h1 h2 h3 hn hfix2 w
      simp only [hfix] at hb
      rw [hes] at hcap
      have hrun:∀ w:World,(Instr.sliceAt t (ac.eval x) (lo.map ac.eval) (hi.map ac.eval) (mx.map ac.eval)).run P w =
        .ok (.slice (if (if fixed=true then m else cap)=l then some ⟨(c.loc b).1,(c.loc b).2+off,none⟩ else some ⟨(c.loc b).1,(c.loc b).2+off+l * i.size,none⟩) (h' - l) ((if fixed=true then m else cap) - l)) w:=by
       intro w
       rw [bound_rel hlo hbl,bound_rel hhi hbh,bound_rel hmx hbm,hux]
       simp only [Instr.sliceAt,Sem.run_bind,run_underlying hu,Result.andThen_ok,Instr.slice,hb,run_sizeOf hi',Sem.run_pure,Option.map_some,Addr.add_lit]
      obtain ⟨M,hM⟩:∃ M,(if fixed=true then m else cap)=M:=⟨_,rfl⟩
      simp only [hM] at hrun
      have hMc:M≤cap:=by rw [← hM];split <;> omega
      have hMh:h'≤M:=by rw [← hM];split <;> omega
      by_cases hMl:M=l
      ·simp only [if_pos hMl] at hrun
       have e1:h' - l=0:=by omega
       have e2:M - l=0:=by omega
       simp only [e1,e2] at hrun
       rw [e1]
       refine still_value (by simp only [execOp,ho]) hrun (.empty b _ _ _ hbn ?_)
       split
       ·rename_i ef;rw [if_pos ef] at hM;right;omega
       ·rename_i ef
        rw [if_neg ef] at hM
        rcases hk with hk | hk
        ·left;rw [if_pos hk]
        ·right;rw [if_neg (by omega)];omega
      ·simp only [if_neg hMl] at hrun
       have hmul:l * i.size+(M - l) * i.size=M * i.size:=by rw [← Nat.add_mul];congr 1;omega
       have hmul2:M * i.size≤cap * i.size:=Nat.mul_le_mul_right _ hMc
       have hvr:=VR.slice (c:=c) b (off+l * i.size) (h' - l) (if fixed=true then m - l+1 else if k=0 then 0 else k - l) (M - l) hbn (by omega) (by
        split
        ·rename_i ef;rw [if_pos ef] at hM;right;omega
        ·rename_i ef
         rw [if_neg ef] at hM
         rcases hk with hk | hk
         ·left;rw [if_pos hk]
         ·right;rw [if_neg (by omega)];omega) (by rw [hes];omega)
       rw [← Nat.add_assoc] at hvr
       exact still_value (by simp only [execOp,ho]) hrun hvr
    | empty _ _ _ ad hbn hk =>
      have hb:=fun w:World=>bounds_run (P:=P) (cap:=0) hbl hbh hbm h1 h2 h3 (Nat.le_refl _) hfix2 w
      simp only [hfix] at hb
      have el:l=0:=by omega
      have eh:h'=0:=by omega
      have em:m=0:=by omega
      subst el;subst eh;subst em
      have e0:(if fixed=true then 0 else 0)=0:=by split <;> rfl
      simp only [e0] at hb
      refine still_value (s:=Instr.sliceAt t (ac.eval x) (lo.map ac.eval) (hi.map ac.eval) (mx.map ac.eval)) (u:=.slice (some ad) 0 0) (by simp only [execOp,ho]) (fun w=>?_) (.empty b _ _ _ hbn ?_)
      ·rw [bound_rel hlo hbl,bound_rel hhi hbh,bound_rel hmx hbm,hux]
       simp [Instr.sliceAt,run_underlying hu,Instr.slice,hb,run_sizeOf hi']
      ·split
       ·right;rfl
       ·split
        ·left;rfl
        ·omega
   ·cases hv
  ·cases hv
 ·rename_i e hu hx
  split at hv
  ·rename_i i hi' hbl hbh hbm
   split at hv
   ·rename_i hfix2
    cases hv
    rw [hx] at hc
    generalize hux:ac.eval x=ux at hc
    cases hc with
    | slice0 =>
      have hb:=fun w:World=>bounds_run (P:=P) (cap:=0) hbl hbh hbm (Nat.le_refl _) (Nat.le_refl _) (Nat.le_refl _) (Nat.le_refl _) hfix2 w
      simp only [ite_self] at hb
      refine still_value (s:=Instr.sliceAt t (ac.eval x) (lo.map ac.eval) (hi.map ac.eval) (mx.map ac.eval)) (u:=.slice none 0 0) (by simp only [execOp,ho]) (fun w=>?_) (by rw [hx];exact .slice0)
      rw [bound_rel hlo hbl,bound_rel hhi hbh,bound_rel hmx hbm,hux]
      simp [Instr.sliceAt,run_underlying hu,Instr.slice,hb,run_sizeOf hi']
   ·cases hv
  ·cases hv
 ·cases hv
theorem builtin_still {b:Builtin} {args:Array Operand} {ts:Array TypeId} (ho:o.op=.call { callee:=.builtin b,args:=args,argTypes:=ts }) {s:Sem Value} {u:Value}
  (hs:∀ cs:Array Bool,builtin b ts o.type cs (args.map ac.eval)=(do pure (.value (← s)))) (hr:∀ w:World,s.run P w=.ok u w) (hv:VR c v u):Still P c ac o v:=by
 refine still_value (s:=s) ?_ hr hv
 simp only [execOp,ho,resolve,invoke]
 exact hs _
theorem pick_still (h:Pre G w0 c g S w a ac o) (cc x y:Operand) (ho:o.op=.pick cc x y) (b:Bool) (hb:a.eval cc=.bool b):Still P c ac o (cond b (a.eval x) (a.eval y)):=by
 have hc:=h.ev (x:=cc) (by simp [ho,Op.operands])
 have hx:=h.ev (x:=x) (by simp [ho,Op.operands])
 have hy:=h.ev (x:=y) (by simp [ho,Op.operands])
 rw [hb] at hc
 refine ⟨(cond b (ac.eval x) (ac.eval y)),?_,fun w=>?_⟩
 ·cases b
  ·exact hy
  ·exact hx
 ·cases b <;> simp [execOp,ho,hc.bool_inv,asBool]
theorem extract_still (h:Pre G w0 c g S w a ac o) (x:Operand) (i:Nat) (ho:o.op=.extract x i) (vs:Array Value) (hx:a.eval x=.tuple vs) (hv:vs[i]?=some v):Still P c ac o v:=by
 have hc:=h.ev (x:=x) (by simp [ho,Op.operands])
 rw [hx] at hc
 generalize hu:ac.eval x=u at hc
 cases hc with
 | tuple _ ys hl hh =>
   have hi:i<ys.size:=by rw [← hl];exact (Array.getElem?_eq_some_iff.1 hv).1
   refine ⟨ys[i],hh i v _ hv (Array.getElem?_eq_getElem hi),fun w=>?_⟩
   simp [execOp,ho,hu,Instr.extract,hi]
theorem indexAddr_still (h:Pre G w0 c g S w a ac o) (t:TypeId) (x y:Operand) (ho:o.op=.indexAddr t x y) (k:IntKind) (i:Int) (hy:a.eval y=.int k i) (hv:ixA P t (a.eval x) i=some v):Still P c ac o v:=by
 have hc:=h.ev (x:=x) (by simp [ho,Op.operands])
 have hcy:=h.ev (x:=y) (by simp [ho,Op.operands])
 rw [hy] at hcy
 have hiy:=hcy.int_inv
 unfold ixA at hv
 split at hv
 ·rename_i len e b off hu hx
  split at hv
  ·rename_i j hj
   split at hv
   ·rename_i hb
    cases hv
    rw [hx] at hc
    generalize hux:ac.eval x=ux at hc
    cases hc with
    | ptr _ _ hbn =>
      refine still_value (s:=Instr.indexAt t (ac.eval x) (ac.eval y)) (u:=.pointer (some ⟨(c.loc b).1,(c.loc b).2+off+i.toNat * j.size,none⟩)) (by simp only [execOp,ho]) (fun w=>?_) (by rw [Nat.add_assoc];exact .ptr b _ hbn)
      simp [hux,hiy,Instr.indexAt,asIntOf,run_underlying hu,Instr.sureAddr,hb,run_sizeOf hj,Addr.add_lit]
   ·cases hv
  ·cases hv
 ·rename_i e b off n k' hu hx
  split at hv
  ·rename_i j hj
   split at hv
   ·rename_i hb
    cases hv
    rw [hx] at hc
    generalize hux:ac.eval x=ux at hc
    cases hc with
    | slice _ _ _ _ m hbn hn hk hcap =>
      refine still_value (s:=Instr.indexAt t (ac.eval x) (ac.eval y)) (u:=.pointer (some ⟨(c.loc b).1,(c.loc b).2+off+i.toNat * j.size,none⟩)) (by simp only [execOp,ho]) (fun w=>?_) (by rw [Nat.add_assoc];exact .ptr b _ hbn)
      simp [hux,hiy,Instr.indexAt,asIntOf,run_underlying hu,hb,run_sizeOf hj,Addr.add_lit]
    | empty=>omega
   ·cases hv
  ·cases hv
 ·cases hv
theorem fieldAddr_still (h:Pre G w0 c g S w a ac o) (t:TypeId) (x:Operand) (f:Nat) (ho:o.op=.fieldAddr t x f) (fs:Array Field) (hu:P.underlying t=some (.struct fs)) (fd:Field) (hf:fs[f]?=some fd) (j:TypeInfo) (hj:P.info? fd.type=some j) (hsz:j.size≠0)
  (b off:Nat) (hx:a.eval x=.pointer (some ⟨b,off,none⟩)):Still P c ac o (.pointer (some ⟨b,off+fd.offset,none⟩)):=by
 have hc:=h.ev (x:=x) (by simp [ho,Op.operands])
 rw [hx] at hc
 generalize hux:ac.eval x=ux at hc
 cases hc with
 | ptr _ _ hbn =>
   refine still_value (s:=Instr.fieldAt t (ac.eval x) f) (u:=.pointer (some ⟨(c.loc b).1,(c.loc b).2+off+fd.offset,none⟩)) (by simp only [execOp,ho]) (fun w=>?_) (by rw [Nat.add_assoc];exact .ptr b _ hbn)
   simp [hux,Instr.fieldAt,run_underlying hu,hf,Instr.sureAddr,fieldPlace,run_sizeOf hj,hsz,Addr.add_lit]
theorem nilCheck_still (h:Pre G w0 c g S w a ac o) (x:Operand) (ho:o.op=.nilCheck x) (ad:Addr) (hx:a.eval x=.pointer (some ad)):Still P c ac o (.pointer (some ad)):=by
 have hc:=h.ev (x:=x) (by simp [ho,Op.operands])
 rw [hx] at hc
 generalize hux:ac.eval x=ux at hc
 cases hc with
 | ptr b off hbn =>
   refine ⟨_,.ptr b off hbn,fun w=>?_⟩
   simp [execOp,ho,hux]
theorem field_still (h:Pre G w0 c g S w a ac o) (t:TypeId) (x:Operand) (f:Nat) (ho:o.op=.field t x f) (fs:Array Field) (hu:P.underlying t=some (.struct fs)) (fd:Field) (hf:fs[f]?=some fd) (cs:Array Value) (hx:a.eval x=.agg cs)
  (hv:partA P fd.type cs fd.offset=some v):Still P c ac o v:=by
 have hc:=h.ev (x:=x) (by simp [ho,Op.operands])
 rw [hx] at hc
 generalize hux:ac.eval x=ux at hc
 cases hc with
 | agg _ ys hl hh =>
   obtain ⟨u,hr,hvr⟩:=partA_run hl hh hv
   refine still_value (s:=Instr.field t (ac.eval x) f) (u:=u) (by simp only [execOp,ho]) (fun w=>?_) hvr
   simp [hux,Instr.field,run_underlying hu,hf,asAgg,hr]
theorem index_still (h:Pre G w0 c g S w a ac o) (t:TypeId) (x y:Operand) (ho:o.op=.index t x y) (len:Nat) (e:TypeId) (hu:P.underlying t=some (.array len e)) (j:TypeInfo) (hj:P.info? e=some j) (cs:Array Value) (hx:a.eval x=.agg cs)
  (k:IntKind) (i:Int) (hy:a.eval y=.int k i) (hi:0≤i∧i<len) (hv:partA P e cs (i.toNat * j.size)=some v):Still P c ac o v:=by
 have hc:=h.ev (x:=x) (by simp [ho,Op.operands])
 have hcy:=h.ev (x:=y) (by simp [ho,Op.operands])
 rw [hy] at hcy
 have hiy:=hcy.int_inv
 rw [hx] at hc
 generalize hux:ac.eval x=ux at hc
 cases hc with
 | agg _ ys hl hh =>
   obtain ⟨u,hr,hvr⟩:=partA_run hl hh hv
   refine still_value (s:=Instr.index t (ac.eval x) (ac.eval y)) (u:=u) (by simp only [execOp,ho]) (fun w=>?_) hvr
   simp [hux,hiy,Instr.index,asIntOf,run_underlying hu,hi,run_sizeOf hj,hr]
theorem build_still (h:Pre G w0 c g S w a ac o) (t:TypeId) (parts:Array (Nat × Operand)) (ho:o.op=.build t parts) (hv:buildA P t (parts.map fun (i,x)=>(i,a.eval x))=some v):Still P c ac o v:=by
 obtain ⟨hpl,hpv⟩:=parts_rel h parts (fun p hp=>by simp only [ho,Op.operands];simp;exact ⟨p.1,hp⟩)
 unfold buildA at hv
 have zr:∀ z:Value,af 8 z=true→z.cells.size=z.cells.size∧∀ (i:Nat) (x y:Value),z.cells[i]?=some x→z.cells[i]?=some y→VR c x y:=fun z hz=>(af_refl c 8 z hz).cells
 split at hv
 ·rename_i i fs hi hu
  split at hv
  ·rename_i z hz
   split at hv
   ·rename_i haf
    split at hv
    ·rename_i places hpp
     rw [Option.map_eq_some_iff] at hv
     obtain ⟨out,hout,rfl⟩:=hv
     obtain ⟨out',hout',hs,hh⟩:=fill_rel (places[·]?) _ _ _ _ _ hpl hpv (zr z haf).1 (zr z haf).2 hout
     refine still_value (s:=Instr.build t (parts.map fun (i,x)=>(i,ac.eval x))) (u:=.agg out') (by simp only [execOp,ho]) (fun w=>?_) (.agg _ _ hs hh)
     simp only [Instr.build,zeroValue,typeInfo,program,hi,hz,Sem.run_bind,Sem.run,Result.andThen_ok,Sem.run_pure,run_underlying hu,run_places hpp,hout']
    ·cases hv
   ·cases hv
  ·cases hv
 ·rename_i i e n hi hu
  split at hv
  ·rename_i z j hz hj
   split at hv
   ·rename_i haf
    rw [Option.map_eq_some_iff] at hv
    obtain ⟨out,hout,rfl⟩:=hv
    obtain ⟨out',hout',hs,hh⟩:=fill_rel (fun i=>some (i * j.size,j.size)) _ _ _ _ _ hpl hpv (zr z haf).1 (zr z haf).2 hout
    refine still_value (s:=Instr.build t (parts.map fun (i,x)=>(i,ac.eval x))) (u:=.agg out') (by simp only [execOp,ho]) (fun w=>?_) (.agg _ _ hs hh)
    simp only [Instr.build,zeroValue,typeInfo,program,hi,hz,Sem.run_bind,Sem.run,Result.andThen_ok,Sem.run_pure,run_underlying hu,run_sizeOf hj,hout']
   ·cases hv
  ·cases hv
 ·cases hv
theorem len_still (h:Pre G w0 c g S w a ac o) (x:Operand) (t:TypeId) (ho:o.op=.call { callee:=.builtin .len,args:=#[x],argTypes:=#[t] }) (hv:lenA P t (a.eval x)=some v):Still P c ac o v:=by
 have hc:=arg_ev h ho (x:=x) (by simp)
 refine builtin_still ho (s:=Builtin.len_ #[t] o.type #[ac.eval x]) (u:=v) (fun cs=>by simp [builtin]) (fun w=>?_) ?_
 ·unfold lenA at hv
  split at hv
  ·rename_i e ad n k hu hx
   cases hv
   rw [hx] at hc
   generalize ac.eval x=ux at hc
   cases hc <;> simp [Builtin.len_,run_underlying hu]
  ·rename_i n e hu
   cases hv
   simp [Builtin.len_,run_underlying hu]
  ·rename_i e hu
   split at hv
   ·rename_i n e' hu'
    cases hv
    simp [Builtin.len_,run_underlying hu,run_underlying hu']
   ·cases hv
  ·cases hv
 ·unfold lenA at hv
  split at hv
  ·cases hv;exact .int _ _
  ·cases hv;exact .int _ _
  ·split at hv
   ·cases hv;exact .int _ _
   ·cases hv
  ·cases hv
theorem cap_still (h:Pre G w0 c g S w a ac o) (x:Operand) (t:TypeId) (ho:o.op=.call { callee:=.builtin .cap,args:=#[x],argTypes:=#[t] }) (hv:capA P t (a.eval x)=some v):Still P c ac o v:=by
 have hc:=arg_ev h ho (x:=x) (by simp)
 unfold capA at hv
 split at hv
 ·rename_i e hu hx
  cases hv
  rw [hx] at hc
  generalize hux:ac.eval x=ux at hc
  cases hc
  exact builtin_still ho (s:=Builtin.cap_ #[t] o.type #[ac.eval x]) (u:=goInt 0) (fun cs=>by simp [builtin]) (fun w=>by simp [hux,Builtin.cap_,run_underlying hu]) (.int _ _)
 ·rename_i e ad n k _ hu hx
  split at hv
  ·cases hv
  ·rename_i hk0
   cases hv
   rw [hx] at hc
   generalize hux:ac.eval x=ux at hc
   cases hc with
   | slice0=>exact absurd rfl hk0
   | slice _ _ _ _ m hbn hn hk hcap =>
     have:k - 1=m:=by omega
     subst this
     exact builtin_still ho (s:=Builtin.cap_ #[t] o.type #[ac.eval x]) (u:=goInt ((k - 1:Nat):Int)) (fun cs=>by simp [builtin]) (fun w=>by simp [hux,Builtin.cap_,run_underlying hu]) (.int _ _)
   | empty _ _ _ ad hbn hk =>
     have:k - 1=0:=by omega
     rw [this]
     exact builtin_still ho (s:=Builtin.cap_ #[t] o.type #[ac.eval x]) (u:=goInt ((0:Nat):Int)) (fun cs=>by simp [builtin]) (fun w=>by simp [hux,Builtin.cap_,run_underlying hu]) (.int _ _)
 ·cases hv
theorem nil_still (h:Pre G w0 c g S w a ac o) (op:BinOp) (t:TypeId) (x y:Operand) (yt:TypeId) (ho:o.op=.binOp op t x y yt) (hop:op=.eql∨op=.neq) (b:Bool) (hv:nilA P t (a.eval x) (a.eval y)=some b) :
  Still P c ac o (.bool (if op=.eql then b else !b)):=by
 have hx:=h.ev (x:=x) (by simp [ho,Op.operands])
 have hy:=h.ev (x:=y) (by simp [ho,Op.operands])
 have h1:=fun w:World=>(nilA_run (P:=P) hx hy hv w).1
 have h2:=fun w:World=>(nilA_run (P:=P) hx hy hv w).2
 refine still_value (s:=do eqGuard op t x y (ac.eval x) (ac.eval y);binOp op t (ac.eval x) (ac.eval y)) (u:=.bool (if op=.eql then b else !b)) (by simp only [execOp,ho]) (fun w=>?_) (.bool _)
 rw [Sem.run_bind,h2 w]
 simp only [Result.andThen_ok]
 have hform:∀ u u':Value,VR c (a.eval x) u→VR c (a.eval y) u'→(binOp .eql t u u'=do pure (.bool (← Op.equal t u u')))∧(binOp .neq t u u'=do pure (.bool (!(← Op.equal t u u')))):=fun u u' e1 e2=>by
  unfold nilA at hv
  split at hv
  ·rename_i q1 q2;rw [q1] at e1;rw [q2] at e2;cases e1;cases e2 <;> exact ⟨rfl,rfl⟩
  ·rename_i q1 q2;rw [q1] at e1;rw [q2] at e2;cases e2;cases e1 <;> exact ⟨rfl,rfl⟩
  ·rename_i q1 q2;rw [q1] at e1;rw [q2] at e2;cases e1;cases e2 <;> exact ⟨rfl,rfl⟩
  ·rename_i q1 q2;rw [q1] at e1;rw [q2] at e2;cases e2;cases e1 <;> exact ⟨rfl,rfl⟩
  ·cases hv
 obtain ⟨f1,f2⟩:=hform _ _ hx hy
 rcases hop with rfl | rfl
 ·rw [f1];simp [h1 w]
 ·rw [f2];simp [h1 w]
/-- What a still operation gives. -/
def evStill (P:Program) (a:Act) (o:Oper) (S:St):Option Value :=
 match o.op with
 | .move x | .assign x=>some (a.eval x)
 | .pick cc x y=>match a.eval cc with
   | .bool b=>some (cond b (a.eval x) (a.eval y))
   | _=>none
 | .extract x i=>match a.eval x with
   | .tuple vs=>vs[i]?
   | _=>none
 | .build t parts=>buildA P t (parts.map fun (i,x)=>(i,a.eval x))
 | .slice t x lo hi mx=>match a.eval x with
   | .slice _ _ _=>sliceA P S t (a.eval x) (lo.map a.eval) (hi.map a.eval) (mx.map a.eval)
   | _=>evPure P a o
 | .fieldAddr t x f=>match P.underlying t,a.eval x with
   | some (.struct fs),.pointer (some ⟨b,off,none⟩)=>match fs[f]? with
     | some fd=>match P.info? fd.type with
       | some j=>if j.size≠0 then some (.pointer (some ⟨b,off+fd.offset,none⟩)) else none
       | none=>none
     | none=>none
   | _,_=>none
 | .indexAddr t x y=>match a.eval y with
   | .int _ i=>ixA P t (a.eval x) i
   | _=>none
 | .nilCheck x=>match a.eval x with
   | .pointer (some ad)=>some (.pointer (some ad))
   | _=>none
 | .field t x f=>match P.underlying t,a.eval x with
   | some (.struct fs),.agg cs=>match fs[f]? with
     | some fd=>partA P fd.type cs fd.offset
     | none=>none
   | _,_=>none
 | .index t x y=>match P.underlying t,a.eval x,a.eval y with
   | some (.array len e),.agg cs,.int _ i=>match P.info? e with
     | some j=>if 0≤i∧i<len then partA P e cs (i.toNat * j.size) else none
     | none=>none
   | _,_,_=>evPure P a o
 | .binOp op t x y _=>match a.eval x,a.eval y with
   | .int _ _,_=>evPure P a o
   | _,_=>if op=.eql∨op=.neq then match nilA P t (a.eval x) (a.eval y) with
     | some b=>some (.bool (if op=.eql then b else !b))
     | none=>evPure P a o
     else evPure P a o
 | .call k=>match k.callee,k.args.toList,k.argTypes.toList with
   | .builtin .len,[x],[t]=>match lenA P t (a.eval x) with
     | some v=>some v
     | none=>evPure P a o
   | .builtin .cap,[x],[t]=>capA P t (a.eval x)
   | .builtin .append,_,_=>none
   | .builtin _,_,_=>evPure P a o
   | _,_,_=>none
 | .makeFunc (.func f) first cap=>some (.func (.func f) (first.map a.eval) (cap.map a.eval))
 | .load .. | .store .. | .box .. | .alloc .. | .buildSlice .. | .makeSlice ..=>none
 | .convert .. | .unOp ..=>evPure P a o
 | _=>none
theorem makeFunc_still (h:Pre G w0 c g S w a ac o) (f:FuncId) (first cap:Array Operand) (ho:o.op=.makeFunc (.func f) first cap):Still P c ac o (.func (.func f) (first.map a.eval) (cap.map a.eval)):=by
 have key:∀ (xs:Array Operand),(∀ x ∈ xs,x ∈ o.op.operands)→∀ (i:Nat) (x y:Value),(xs.map a.eval)[i]?=some x→(xs.map ac.eval)[i]?=some y→VR c x y:=fun xs hm i x y hx hy=>by
  rw [Array.getElem?_map,Option.map_eq_some_iff] at hx hy
  obtain ⟨p,hp,rfl⟩:=hx
  obtain ⟨q,hq,rfl⟩:=hy
  obtain rfl:p=q:=by rw [hp] at hq;simpa using hq
  exact h.ev (hm p (Array.mem_of_getElem? hp))
 refine ⟨.func (.func f) (first.map ac.eval) (cap.map ac.eval),.func _ _ _ _ _ (by simp) (key first fun x hx=>?_) (by simp) (key cap fun x hx=>?_),fun w=>?_⟩
 ·rw [ho];simp [Op.operands,hx]
 ·rw [ho];simp [Op.operands,hx]
 ·simp [execOp,ho,Instr.makeFunc]
theorem evStill_ok (h:Pre G w0 c g S w a ac o) (hv:evStill P a o S=some v):Still P c ac o v:=by
 unfold evStill at hv
 split at hv
 ·rename_i x ho;cases hv;exact move_still h x (.inl ho)
 ·rename_i x ho;cases hv;exact move_still h x (.inr ho)
 ·rename_i cc x y ho
  split at hv
  ·rename_i b hb;cases hv;exact pick_still h cc x y ho b hb
  ·cases hv
 ·rename_i x i ho
  split at hv
  ·rename_i vs hvs;exact extract_still h x i ho vs hvs hv
  ·cases hv
 ·rename_i t parts ho;exact build_still h t parts ho hv
 ·rename_i t x lo hi mx ho
  split at hv
  ·exact slice_still h t x lo hi mx ho hv
  ·exact evPure_still h hv
 ·rename_i t x f ho
  split at hv
  ·rename_i fs b off hu hx
   split at hv
   ·rename_i fd hf
    split at hv
    ·rename_i j hj
     split at hv
     ·rename_i hsz;cases hv;exact fieldAddr_still h t x f ho fs hu fd hf j hj hsz b off hx
     ·cases hv
    ·cases hv
   ·cases hv
  ·cases hv
 ·rename_i t x y ho
  split at hv
  ·rename_i k i hy;exact indexAddr_still h t x y ho k i hy hv
  ·cases hv
 ·rename_i x ho
  split at hv
  ·rename_i ad hx;cases hv;exact nilCheck_still h x ho ad hx
  ·cases hv
 ·rename_i t x f ho
  split at hv
  ·rename_i fs cs hu hx
   split at hv
   ·rename_i fd hf;exact field_still h t x f ho fs hu fd hf cs hx hv
   ·cases hv
  ·cases hv
 ·rename_i t x y ho
  split at hv
  ·rename_i len e cs k i hu hx hy
   split at hv
   ·rename_i j hj
    split at hv
    ·rename_i hi;exact index_still h t x y ho len e hu j hj cs hx k i hy hi hv
    ·cases hv
   ·cases hv
  ·exact evPure_still h hv
 ·rename_i op t x y yt ho
  split at hv
  ·exact evPure_still h hv
  ·split at hv
   ·rename_i hop
    split at hv
    ·rename_i b hb;cases hv;exact nil_still h op t x y yt ho hop b hb
    ·exact evPure_still h hv
   ·exact evPure_still h hv
 ·rename_i k ho
  have arr:∀ {α:Type} (xs:Array α) (l:List α),xs.toList=l→xs=l.toArray:=fun xs l e=>by rw [← e]
  split at hv
  ·rename_i x t hc hargs hts
   split at hv
   ·rename_i v' hl
    cases hv
    exact len_still h x t (by rw [ho];cases k;simp only at hc hargs hts;rw [hc,arr _ _ hargs,arr _ _ hts]) hl
   ·exact evPure_still h hv
  ·rename_i x t hc hargs hts
   exact cap_still h x t (by rw [ho];cases k;simp only at hc hargs hts;rw [hc,arr _ _ hargs,arr _ _ hts]) hv
  ·cases hv
  ·exact evPure_still h hv
  ·cases hv
 ·rename_i f first cap ho;cases hv;exact makeFunc_still h f first cap ho
 ·cases hv
 ·cases hv
 ·cases hv
 ·cases hv
 ·cases hv
 ·cases hv
 ·exact evPure_still h hv
 ·exact evPure_still h hv
 ·cases hv
variable {P:Program} {G:Nat} {w0 w:World} {c c0:Ctx} {g:Gh} {S S':St} {a a' ac:Act} {v v' u:Value}
/-- Every entry of a table. -/
def Trie.chk {α:Type}:(Nat→α→Bool)→Trie α→Bool
 | _,.leaf=>true
 | p,.node v l r=>(match v with | some x=>p 0 x | none=>true) && (Trie.chk (fun i=>p (2 * i+1)) l && Trie.chk (fun i=>p (2 * i+2)) r)
theorem Trie.chk_get {α:Type}:∀ (t:Trie α) (p:Nat→α→Bool),t.chk p=true→∀ (i:Nat) (x:α),t.get i=some x→p i x=true
 | .leaf,p,_,i,x,h=>by rw [Trie.get_leaf] at h;cases h
 | .node v l r,p,hc,i,x,h=>by
   simp only [Trie.chk,Bool.and_eq_true] at hc
   obtain ⟨h0,hl,hr⟩:=hc
   rw [Trie.get_node] at h
   by_cases hi:i=0
   ·subst hi
    rw [if_pos rfl] at h
    subst h
    exact h0
   ·rw [if_neg hi] at h
    by_cases ho:i % 2=1
    ·rw [if_pos ho] at h
     have:=Trie.chk_get l _ hl _ _ h
     rwa [show 2 * (i / 2)+1=i by omega] at this
    ·rw [if_neg ho] at h
     have:=Trie.chk_get r _ hr _ _ h
     rwa [show 2 * (i / 2 - 1)+2=i by omega] at this
/-- Numbers behind n0 go by a list of pairs: (in the second memory, in the first). -/
structure Ren where
 n0:Nat
 l:List (Nat × Nat)
def look (l:List (Nat × Nat)) (x:Nat):Nat:=match l with
 | []=>0
 | (y,z) :: rest=>cond (y == x) z (look rest x)
def Ren.at (r:Ren) (b:Nat):Nat:=if b<r.n0 then b else look r.l b
def Ctx.ren (c:Ctx) (r:Ren):Ctx:={ c with loc:=fun b=>c.loc (r.at b),es:=fun b=>c.es (r.at b) }
theorem Ctx.le.ren {r:Ren} (h:c0.le c) (hn:c0.n≤r.n0):c0.le (c.ren r):=by
 have e:∀ b,b<c0.n→r.at b=b:=fun b hb=>by unfold Ren.at;rw [if_pos (by omega)]
 refine ⟨h.n,fun b hb=>?_,fun b hb=>h.cz b hb,fun b hb=>?_⟩
 ·show c.loc (r.at b)=_
  rw [e b hb];exact h.loc b hb
 ·show c.es (r.at b)=_
  rw [e b hb];exact h.es b hb
/-- A value of the first memory and the same of the second. -/
def vrn (r:Ren) (n:Nat):Nat→Value→Value→Bool
 | 0,_,_=>false
 | f+1,v,v'=>match v,v' with
   | .bool b,.bool b'=>b == b'
   | .int k x,.int k' x'=>decide (k=k'∧x=x')
   | .float k x,.float k' x'=>decide (k=k'∧x=x')
   | .string s,.string s'=>decide (s=s')
   | .pointer none,.pointer none=>true
   | .pointer (some ⟨b,o,none⟩),.pointer (some ⟨b',o',none⟩)=>decide (b'<n∧r.at b'=b∧o=o')
   | .slice none l k,.slice none l' k'=>decide (l=l'∧k=k')
   | .slice (some ⟨b,o,none⟩) l k,.slice (some ⟨b',o',none⟩) l' k'=>decide (b'<n∧r.at b'=b∧o=o'∧l=l'∧k=k')
   | .map none,.map none=>true
   | .chan none,.chan none=>true
   | .nilFunc,.nilFunc=>true
   | .nilIface,.nilIface=>true
   | .agg xs,.agg ys=>decide (xs.size=ys.size) && (xs.toList.zip ys.toList).all fun p=>vrn r n f p.1 p.2
   | .tuple xs,.tuple ys=>decide (xs.size=ys.size) && (xs.toList.zip ys.toList).all fun p=>vrn r n f p.1 p.2
   | .iface t x,.iface t' y=>decide (t=t') && vrn r n f x y
   | .func fn xs xs',.func fn' ys ys'=>decide (fn=fn') && (decide (xs.size=ys.size) && ((xs.toList.zip ys.toList).all fun p=>vrn r n f p.1 p.2) && (decide (xs'.size=ys'.size) && (xs'.toList.zip ys'.toList).all fun p=>vrn r n f p.1 p.2))
   | _,_=>false
theorem zip_all {p:Value × Value→Bool} {xs ys:List Value} (h:(xs.zip ys).all p=true) (i:Nat) (x y:Value) (hx:xs[i]?=some x) (hy:ys[i]?=some y):p (x,y)=true:=by
 rw [List.all_eq_true] at h
 exact h _ (List.mem_of_getElem? (show (xs.zip ys)[i]?=some (x,y) by rw [List.getElem?_zip_eq_some];exact ⟨hx,hy⟩))
theorem vrn_all {r:Ren} {n f:Nat} {c':Ctx} (ih:∀ v v' u,vrn r n f v v'=true→VR c v u→VR c' v' u) {xs ys us:Array Value} (hs:xs.size=ys.size) (h:((xs.toList.zip ys.toList).all fun p=>vrn r n f p.1 p.2)=true) (hl:xs.size=us.size)
  (hv:∀ (i:Nat) (x y:Value),xs[i]?=some x→us[i]?=some y→VR c x y):ys.size=us.size∧∀ (i:Nat) (x y:Value),ys[i]?=some x→us[i]?=some y→VR c' x y:=by
 refine ⟨by omega,fun i y u hy hu=>?_⟩
 have hi:i<xs.size:=by rw [hs];exact (Array.getElem?_eq_some_iff.1 hy).1
 have hx:xs[i]?=some xs[i]:=Array.getElem?_eq_getElem hi
 exact ih _ _ _ (zip_all h i xs[i] y (by rw [Array.getElem?_toList];exact hx) (by rw [Array.getElem?_toList];exact hy)) (hv i _ _ hx hu)
theorem vrn_ok (r:Ren) (c:Ctx):∀ (f:Nat) (v v' u:Value),vrn r c.n f v v'=true→VR c v u→VR (c.ren r) v' u:=by
 intro f
 induction f with
 | zero=>intro v v' u h;simp [vrn] at h
 | succ f ih =>
   intro v v' u h hv
   unfold vrn at h
   split at h
   ·rw [beq_iff_eq] at h;subst h;cases hv;exact .bool _
   ·rw [decide_eq_true_eq] at h;obtain ⟨rfl,rfl⟩:=h;cases hv;exact .int _ _
   ·rw [decide_eq_true_eq] at h;obtain ⟨rfl,rfl⟩:=h;cases hv;exact .float _ _
   ·rw [decide_eq_true_eq] at h;subst h;cases hv;exact .string _
   ·cases hv;exact .ptr0
   ·rename_i b o b' o'
    rw [decide_eq_true_eq] at h
    obtain ⟨hb,rfl,rfl⟩:=h
    cases hv
    exact VR.ptr (c:=c.ren r) b' o hb
   ·rw [decide_eq_true_eq] at h;obtain ⟨rfl,rfl⟩:=h;cases hv;exact .slice0
   ·rename_i b o l k b' o' l' k'
    rw [decide_eq_true_eq] at h
    obtain ⟨hb,rfl,rfl,rfl,rfl⟩:=h
    cases hv with
    | slice _ _ _ _ m h1 h2 h3 h4=>exact VR.slice (c:=c.ren r) b' o l k m hb h2 h3 h4
    | empty _ _ _ ad h1 h2=>exact VR.empty (c:=c.ren r) b' o k ad hb h2
   ·cases hv;exact .map0
   ·cases hv;exact .chan0
   ·cases hv;exact .nilFunc
   ·cases hv;exact .nilIface
   ·rw [Bool.and_eq_true,decide_eq_true_eq] at h
    cases hv with
    | agg _ us hl hh =>
      obtain ⟨h1,h2⟩:=vrn_all ih h.1 h.2 hl hh
      exact .agg _ _ h1 h2
   ·rw [Bool.and_eq_true,decide_eq_true_eq] at h
    cases hv with
    | tuple _ us hl hh =>
      obtain ⟨h1,h2⟩:=vrn_all ih h.1 h.2 hl hh
      exact .tuple _ _ h1 h2
   ·rw [Bool.and_eq_true,decide_eq_true_eq] at h
    obtain ⟨rfl,h2⟩:=h
    cases hv with
    | iface _ _ y hh=>exact .iface _ _ _ (ih _ _ _ h2 hh)
   ·simp only [Bool.and_eq_true,decide_eq_true_eq] at h
    obtain ⟨rfl,⟨h1,h2⟩,h3,h4⟩:=h
    cases hv with
    | func _ _ us _ us' hl hh hl' hh' =>
      obtain ⟨k1,k2⟩:=vrn_all ih h1 h2 hl hh
      obtain ⟨k3,k4⟩:=vrn_all ih h3 h4 hl' hh'
      exact .func _ _ _ _ _ k1 k2 k3 k4
   ·cases h
def Gh.ren (g:Gh) (t:Ren):Gh:={ g with own:=fun x=>(g.own x).map t.at }
/-- The second memory is the first, but for the numbers of blocks (r) and of families (t: from the first's to the second's). -/
def isoS (r t:Ren) (S S':St):Bool :=
 decide (S'.nb=S.nb∧S'.nf=S.nf) && ((List.range S.nb).all (fun b=>decide (r.at b<S.nb)) && ((List.range S.nf).all (fun φ=>decide (t.at φ<S.nf)) &&
  (S'.fams.chk (fun φ _=>decide (φ<S.nf)) &&
   S'.blks.chk fun b k'=>decide (b<S.nb) && match S.blks.get (r.at b),S'.fams.get k'.fam with
    | some k,some f'=>match S.fams.get k.fam with
      | some f=>decide (k.sz=k'.sz∧t.at k.fam=k'.fam∧k.ep=k'.ep∧k.fo=k'.fo∧k.cells.length=k'.cells.length∧f.ep=f'.ep∧f.hw=f'.hw∧f.ro=f'.ro) && (k.cells.zip k'.cells).all fun p=>vrn r S.nb 8 p.1 p.2
      | none=>false
    | _,_=>false)))
theorem Rel.ren {r t:Ren} (h:Rel G w0 c g S w) (hG:G≤r.n0) (hi:isoS r t S S'=true):Rel G w0 (c.ren r) (g.ren t) S' w:=by
 unfold isoS at hi
 simp only [Bool.and_eq_true,decide_eq_true_eq,List.all_eq_true,List.mem_range] at hi
 obtain ⟨⟨hnb,hnf⟩,hb,hf,hfc,hbc⟩:=hi
 refine ⟨hnb.trans h.n,⟨h.glob.1,fun i hi=>?_⟩,h.below,fun b k' hk'=>?_,fun x φ hx=>?_,fun φ f hφ=>?_,fun b hb'=>?_⟩
 ·show c.loc (r.at i)=_
  unfold Ren.at
  rw [if_pos (by omega)]
  exact h.glob.2 i hi
 ·have hc:=Trie.chk_get _ _ hbc b k' hk'
  simp only [Bool.and_eq_true,decide_eq_true_eq] at hc
  obtain ⟨hlt,hc⟩:=hc
  split at hc
  ·rename_i k f' hk hf'
   split at hc
   ·rename_i f hff
    simp only [Bool.and_eq_true,decide_eq_true_eq] at hc
    obtain ⟨⟨e1,e2,e3,e4,e5,e6,e7,e8⟩,hz⟩:=hc
    obtain ⟨f1,cur,e,fr,ok⟩:=h.blk _ k hk
    obtain rfl:f1=f:=by have:=ok.fam.symm.trans hff;exact Option.some.inj this
    refine ⟨f',cur,e,fr,⟨by show b<c.n;rw [← h.n];exact hlt,ok.es.trans e1,hf',ok.heap,ok.size,fun hr=>?_,fun hr=>?_,by rw [← e5];exact ok.fit,by rw [← e3,← e6];exact ok.ep,fun he=>?_,fun he i v hv=>?_⟩⟩
    ·obtain ⟨h1,h2,h3⟩:=ok.own (e8.trans hr)
     refine ⟨?_,h2,h3.trans e4⟩
     show (g.own (c.loc (r.at b)).1).map t.at=_
     rw [h1,Option.map_some,e2]
    ·show (g.own (c.loc (r.at b)).1).map t.at=_
     rw [ok.ro (e8.trans hr)]
     rfl
    ·rw [← e4,← e5,← e7]
     exact ok.hw (by omega)
    ·have hlt2:i<k.cells.length:=by rw [e5];exact (List.getElem?_eq_some_iff.1 hv).1
     obtain ⟨u,hu,hvr⟩:=ok.cells (by omega) i _ (List.getElem?_eq_getElem hlt2)
     have hz1:vrn r S.nb 8 k.cells[i] v=true:=zip_all (p:=fun p=>vrn r S.nb 8 p.1 p.2) hz i _ _ (List.getElem?_eq_getElem hlt2) hv
     rw [h.n] at hz1
     exact ⟨u,hu,vrn_ok r c 8 _ _ _ hz1 hvr⟩
   ·cases hc
  ·cases hc
 ·have hx':(g.own x).map t.at=some φ:=hx
  rw [Option.map_eq_some_iff] at hx'
  obtain ⟨ψ,hψ,rfl⟩:=hx'
  obtain ⟨h1,h2,h3⟩:=h.own x ψ hψ
  exact ⟨h1,h2,by rw [hnf];exact hf ψ h3⟩
 ·have:=Trie.chk_get _ _ hfc φ f hφ
  rw [decide_eq_true_eq] at this
  rw [hnf]
  exact this
 ·show (c.loc (r.at b)).1<_
  exact h.all _ (by rw [← h.n];exact hb b (by rw [h.n];exact hb'))
/-- The same of a frame. -/
def isoA (r:Ren) (n:Nat) (a a':Act):Bool:=a.defers.isEmpty && (a'.defers.isEmpty && (decide (a.tmps.size=a'.tmps.size) && (a.tmps.toList.zip a'.tmps.toList).all fun p=>vrn r n 8 p.1 p.2))
theorem ActR.ren {r:Ren} (h:ActR c a ac) (hi:isoA r c.n a a'=true):ActR (c.ren r) a' ac:=by
 unfold isoA at hi
 simp only [Bool.and_eq_true,decide_eq_true_eq] at hi
 obtain ⟨_,hd,hs,hz⟩:=hi
 obtain ⟨h1,h2⟩:=vrn_all (c:=c) (c':=c.ren r) (fun v v' u=>vrn_ok r c 8 v v' u) hs hz h.size h.get
 exact ⟨h1,h2,by simpa using hd,h.dc⟩
variable {P:Program} {G:Nat} {w0 w:World} {c c0:Ctx} {g:Gh} {S S':St} {a a' ac:Act} {o:Oper} {v:Value}
/-- Values that stand for one of the model's alone. -/
def det (n0:Nat):Nat→Value→Bool
 | 0,_=>false
 | f+1,v=>match v with
   | .pointer (some ⟨b,_,none⟩)=>decide (b<n0)
   | .slice (some ⟨b,_,none⟩) n k=>decide (b<n0) && (decide (0<n) && decide (0<k))
   | .agg xs=>xs.toList.all (det n0 f)
   | .bool _ | .int _ _ | .string _ | .pointer none | .slice none 0 0 | .nilFunc | .nilIface=>true
   | _=>false
def conc (c:Ctx):Nat→Value→Value
 | 0,v=>v
 | f+1,v=>match v with
   | .pointer (some ⟨b,off,none⟩)=>.pointer (some ⟨(c.loc b).1,(c.loc b).2+off,none⟩)
   | .slice (some ⟨b,off,none⟩) n k=>.slice (some ⟨(c.loc b).1,(c.loc b).2+off,none⟩) n (k - 1)
   | .agg xs=>.agg (xs.map (conc c f))
   | v=>v
theorem det_conc (hc:c0.le c):∀ (f:Nat) (v u:Value),det c0.n f v=true→VR c v u→u=conc c0 f v
 | 0,v,u,h,_=>by simp [det] at h
 | f+1,v,u,h,hv=>by
   cases hv with
   | ptr b off hb =>
     simp only [det,decide_eq_true_eq] at h
     simp only [conc]
     rw [hc.loc b h]
   | slice b off n k m hb hn hk hcap =>
     simp only [det,Bool.and_eq_true,decide_eq_true_eq] at h
     simp only [conc]
     rw [hc.loc b h.1]
     have:k - 1=m:=by omega
     rw [this]
   | empty b off k a hb hk=>simp [det] at h
   | agg xs ys hl hh =>
     simp only [det] at h
     simp only [conc]
     congr 1
     apply Array.ext
     ·simp [hl]
     ·intro i h1 h2
      have h3:i<xs.size:=by simpa using h2
      rw [Array.getElem_map]
      exact det_conc hc f _ _ (all_get h (Array.getElem?_eq_getElem h3)) (hh i _ _ (Array.getElem?_eq_getElem h3) (Array.getElem?_eq_getElem h1))
   | tuple xs ys hl hh=>simp [det] at h
   | iface t x y hh=>simp [det] at h
   | func fn xs ys xs' ys' hl hh hl' hh'=>simp [det] at h
   | _=>first | rfl | simp [det] at h
/-- Are these the same? (Where it says no they may be so all the same.) -/
def veq:Nat→Value→Value→Bool
 | 0,_,_=>false
 | f+1,x,y=>match x,y with
   | .bool p,.bool q=>decide (p=q)
   | .int k n,.int k' n'=>decide (k=k') && decide (n=n')
   | .string s,.string t=>decide (s=t)
   | .pointer none,.pointer none=>true
   | .pointer (some ⟨b,i,none⟩),.pointer (some ⟨b',i',none⟩)=>decide (b=b') && decide (i=i')
   | .slice none n k,.slice none n' k'=>decide (n=n') && decide (k=k')
   | .slice (some ⟨b,i,none⟩) n k,.slice (some ⟨b',i',none⟩) n' k'=>decide (b=b') && (decide (i=i') && (decide (n=n') && decide (k=k')))
   | .agg xs,.agg ys=>decide (xs.size=ys.size) && (xs.toList.zip ys.toList).all fun p=>veq f p.1 p.2
   | .nilFunc,.nilFunc=>true
   | .nilIface,.nilIface=>true
   | _,_=>false
theorem veq_eq:∀ (f:Nat) (x y:Value),veq f x y=true→x=y
 | 0,_,_,h=>by simp [veq] at h
 | f+1,x,y,h=>by
   unfold veq at h
   split at h
   ·rw [of_decide_eq_true h]
   ·simp only [Bool.and_eq_true,decide_eq_true_eq] at h;rw [h.1,h.2]
   ·rw [of_decide_eq_true h]
   ·rfl
   ·simp only [Bool.and_eq_true,decide_eq_true_eq] at h;rw [h.1,h.2]
   ·simp only [Bool.and_eq_true,decide_eq_true_eq] at h;rw [h.1,h.2]
   ·simp only [Bool.and_eq_true,decide_eq_true_eq] at h;rw [h.1,h.2.1,h.2.2.1,h.2.2.2]
   ·rename_i xs ys
    simp only [Bool.and_eq_true,decide_eq_true_eq,List.all_eq_true] at h
    congr 1
    apply Array.ext h.1
    intro i h1 h2
    have hl1:i<xs.toList.length:=by simpa using h1
    have hl2:i<ys.toList.length:=by simpa using h2
    have hz:(xs.toList.zip ys.toList)[i]'(by rw [List.length_zip];omega)=(xs.toList[i],ys.toList[i]):=List.getElem_zip
    have:=h.2 _ (List.getElem_mem (show i<(xs.toList.zip ys.toList).length by rw [List.length_zip];omega))
    rw [hz] at this
    have:=veq_eq f _ _ this
    simpa using this
   ·rfl
   ·rfl
   ·cases h
/-- A load, and what it gives: type, block, place, value. -/
abbrev Hold:=TypeId × Nat × Nat × Value
def holds (P:Program) (S:St) (H:List Hold):Bool:=H.all fun h=>match ldA P S h.1 h.2.1 h.2.2.1 with
 | some v=>veq 6 h.2.2.2 v
 | none=>false
def HeldC (P:Program) (c:Ctx) (H:List Hold) (w:World):Prop:=∀ h ∈ H,(loadVar h.1 ⟨(c.loc h.2.1).1,(c.loc h.2.1).2+h.2.2.1,none⟩).run P w=.ok (conc c 6 h.2.2.2) w
def HOK (c:Ctx) (H:List Hold):Prop:=∀ h ∈ H,h.2.1<c.n∧det c.n 6 h.2.2.2=true∧VR c h.2.2.2 (conc c 6 h.2.2.2)
theorem holds_ok (hR:Rel G w0 c g S w) (hc:c0.le c) {H:List Hold} (hd:HOK c0 H) (h:holds P S H=true):HeldC P c0 H w:=fun x hx=>by
 obtain ⟨h1,h2,_⟩:=hd x hx
 have:=List.all_eq_true.1 h x hx
 split at this
 ·rename_i v hv
  have e:=veq_eq 6 _ _ this
  subst e
  obtain ⟨_,u,hrun,hvr⟩:=ldA_run hR hv
  rw [det_conc hc 6 _ _ h2 hvr] at hrun
  rw [hc.loc _ h1] at hrun
  exact hrun
 ·cases this
def loadOf (a:Act) (o:Oper):Option (TypeId × Nat × Nat):=match o.op with
 | .load t x=>match a.eval x with
   | .pointer (some ⟨b,off,none⟩)=>some (t,b,off)
   | _=>none
 | _=>none
def findH:List Hold→TypeId→Nat→Nat→Option Value
 | [],_,_,_=>none
 | (t,b,i,v) :: r,t',b',i'=>if t=t'∧b=b'∧i=i' then some v else findH r t' b' i'
theorem findH_mem:∀ {H:List Hold} {t:TypeId} {b i:Nat} {v:Value},findH H t b i=some v→(t,b,i,v) ∈ H
 | [],_,_,_,_,h=>by cases h
 | (t,b,i,v) :: r,t',b',i',v',h=>by
   unfold findH at h
   split at h
   ·rename_i e
    obtain ⟨rfl,rfl,rfl⟩:=e
    cases h
    simp
   ·exact List.mem_cons_of_mem _ (findH_mem h)
theorem load_held (hR:Rel G w0 c g S w) (hA:ActR c a ac) (hc:c0.le c) {H:List Hold} (hd:HOK c0 H) {t:TypeId} {b i:Nat} (ho:loadOf a o=some (t,b,i)) (hop:o.op.operands.toList.all (okOpnd G)=true) (hm:(t,b,i,v) ∈ H) :
  ∃ u,VR c v u∧∀ w,HeldC P c0 H w→(execOp ac.eval o).run P w=.ok (.value u) w:=by
 unfold loadOf at ho
 split at ho
 ·rename_i t' x hx
  split at ho
  ·rename_i b' off he
   cases ho
   obtain ⟨h1,_,h3⟩:=hd _ hm
   simp only at h1 h3
   have hv:=(⟨hR,hA,hop⟩:Pre G w0 c g S w a ac o).ev (x:=x) (by simp [hx,Op.operands])
   rw [he] at hv
   refine ⟨conc c0 6 v,h3.mono hc,fun w hw=>?_⟩
   have hl:=hw _ hm
   simp only at hl
   have hu:ac.eval x=.pointer (some ⟨(c0.loc b).1,(c0.loc b).2+i,none⟩):=by
    generalize ac.eval x=u at hv
    cases hv with
    | ptr _ _ _=>rw [hc.loc b h1]
   simp only [execOp,hx,hu,Instr.loadAt,Instr.sureAddr]
   simp [hl]
  ·cases ho
 ·cases ho
variable {P:Program} {G:Nat} {w0 w:World} {c:Ctx} {g:Gh} {S S':St} {a a' ac:Act} {o:Oper} {v:Value}
abbrev CallF:=FuncId→Array Value→St→Option (Value × St)
/-- Which function an operation calls, with which arguments. -/
def callOf (a:Act) (o:Oper):Option (FuncId × Array Value) :=
 match o.op with
 | .call k=>match k.callee with
   | .value x=>match a.eval x with
     | .func (.func f) first cap=>some (f,first ++ k.args.map a.eval ++ cap)
     | _=>none
   | _=>none
 | _=>none
def callable (P:Program) (f:FuncId):Bool :=
 match P.funcs[f]? with
 | some fn=>!(fn.name == "runtime.NumGoroutine") && fn.body.isSome
 | none=>false
def evOps (P:Program) (G:Nat) (call:CallF) (ops:Array Oper):List Oper→Act→St→Option (Act × St)
 | [],a,S=>some (a,S)
 | o :: rest,a,S =>
   if Region.wanted o (yielded ops a.tmps)=true then
    if o.op.operands.toList.all (okOpnd G)=true then
     match callOf a o with
     | some (f,args)=>if callable P f=true then match call f args S with
       | some (v,S')=>evOps P G call ops rest (a.put o.dst v) S'
       | none=>none
       else none
     | none=>match evOp P a o S with
       | some (v,S')=>evOps P G call ops rest (a.put o.dst v) S'
       | none=>none
    else none
   else evOps P G call ops rest (a.put o.dst undef) S
inductive AEx where
 | normal
 | exit (id:Nat)
 | ret
def AEx.out:AEx→Exit
 | .normal=>.normal
 | .exit id=>.exit id
 | .ret=>.ret
abbrev CodeF:=Code→Act→St→Option (AEx × Act × St)
def resA (P:Program) (S:St) (tmps:Array Value):ResultVar→Option Value
 | .tmp t=>some (tmps.getD t undef)
 | .cell b t=>match tmps.getD b undef with
   | .pointer (some ⟨b,off,none⟩)=>ldA P S t b off
   | _=>none
def resultsA (P:Program) (S:St) (fn:Func) (tmps:Array Value):Option Value :=
 match fn.results.toList.mapM (m:=Option) (resA P S tmps) with
 | some [v]=>some v
 | some vs=>some (.tuple vs.toArray)
 | none=>none
def runFn (P:Program) (ev:CodeF):CallF:=fun f args S =>
 match P.funcs[f]? with
 | some fn=>match fn.body with
   | some k=>match ev k { tmps:=args ++ Array.replicate (fn.ntmps - args.size) undef,defers:=[] } S with
     | some (.normal,a,S') | some (.ret,a,S')=>(resultsA P S' fn a.tmps).map fun v=>(v,S')
     | _=>none
   | none=>none
 | none=>none
def loopN (ev:Act→St→Option (AEx × Act × St)):Nat→Act→St→Option (AEx × Act × St)
 | 0,_,_=>none
 | n+1,a,S=>match ev a S with
   | some (.normal,a',S')=>loopN ev n a' S'
   | r=>r
/-- What an operation gives that hangs on nothing, or on what is held alone. -/
def stillH (P:Program) (H:List Hold) (a:Act) (o:Oper) (S:St):Option Value :=
 match evStill P a o S with
 | some v=>some v
 | none=>match loadOf a o with
   | some (t,b,i)=>findH H t b i
   | none=>none
/-- The first of the operations that may come next whose outcome hangs on nothing but what is held, and what it gives. -/
def firstStill (P:Program) (G:Nat) (H:List Hold) (ops:Array Oper) (listed:Array Bool) (a:Act) (S:St):List Nat→Option (Nat × Oper × Value)
 | []=>none
 | j :: rest=>match ops[j]? with
   | some o =>
     if Region.wanted o (yielded ops a.tmps)=true then
      match stillH P H a o S with
      | some v=>if o.op.operands.toList.all (okOpnd G)=true∧Region.free .any ops listed j=true then some (j,o,v) else firstStill P G H ops listed a S rest
      | none=>firstStill P G H ops listed a S rest
     else if Region.free .any ops listed j=true then some (j,o,undef) else firstStill P G H ops listed a S rest
   | none=>none
/-- One way of a region that draws its order, on its way: what is listed, the frame, the memory; and which numbers of blocks and of families each operation took (operation, first block, blocks, first family, families). -/
structure Ent where
 listed:Array Bool
 a:Act
 S:St
 log:List (Nat × Nat × Nat × Nat × Nat)
def pairs:List (Nat × Nat)→Nat→Nat→Nat→List (Nat × Nat)
 | l,_,_,0=>l
 | l,x,y,n+1=>(x,y) :: pairs l (x+1) (y+1) n
def logAt (i:Nat):List (Nat × Nat × Nat × Nat × Nat)→Option (Nat × Nat)
 | []=>none
 | (j,b,_,f,_) :: rest=>if i=j then some (b,f) else logAt i rest
/-- The pairs of the second way's numbers and the first's: of blocks; and of families, the first's first. -/
def renOf (l:List (Nat × Nat × Nat × Nat × Nat)):List (Nat × Nat × Nat × Nat × Nat)→List (Nat × Nat) × List (Nat × Nat)
 | []=>([],[])
 | (i,b',n,f',m) :: rest =>
   let (x,y):=renOf l rest
   match logAt i l with
   | some (b,f)=>(pairs x b' b n,pairs y f f' m)
   | none=>(x,y)
/-- Is the first way the second but for numbers? -/
def joins (nb nf:Nat) (e e':Ent):Bool :=
 match renOf e.log e'.log with
 | (x,y)=>decide (e.listed.toList=e'.listed.toList) && (isoS ⟨nb,x⟩ ⟨nf,y⟩ e.S e'.S && isoA ⟨nb,x⟩ e.S.nb e.a e'.a)
def insertE (nb nf:Nat) (e:Ent):List Ent→List Ent
 | []=>[e]
 | e' :: rest=>if joins nb nf e e'=true then e' :: rest else e' :: insertE nb nf e rest
/-- One operation as the next of a way. -/
def evNext (P:Program) (G:Nat) (call:CallF) (H:List Hold) (ops:Array Oper) (e:Ent) (i:Nat):Option Ent :=
 match ops[i]? with
 | some o=>match evOps P G call ops [o] e.a e.S with
   | some (a',S')=>if holds P S' H=true then some ⟨e.listed.setIfInBounds i true,a',S',(i,e.S.nb,S'.nb - e.S.nb,e.S.nf,S'.nf - e.S.nf) :: e.log⟩ else none
   | none=>none
 | none=>none
/-- What may come next of one way: what hangs on nothing first; else each that may. -/
def evSucc (P:Program) (G:Nat) (call:CallF) (H:List Hold) (ops:Array Oper) (e:Ent):Option (List Ent) :=
 match Region.ready .any ops e.listed with
 | []=>none
 | i :: rest=>match firstStill P G H ops e.listed e.a e.S (i :: rest) with
   | some (j,o,v)=>if (i :: rest).contains j=true then some [⟨e.listed.setIfInBounds j true,e.a.put o.dst v,e.S,e.log⟩] else none
   | none=>(i :: rest).mapM (evNext P G call H ops e)
def evSuccs (P:Program) (G:Nat) (call:CallF) (H:List Hold) (ops:Array Oper) (nb nf:Nat):List Ent→Option (List Ent)
 | []=>some []
 | e :: rest=>match evSucc P G call H ops e,evSuccs P G call H ops nb nf rest with
   | some l,some l'=>some (l.foldr (insertE nb nf) l')
   | _,_=>none
/-- All ways side by side, step by step; those that are the same but for numbers are one. -/
def evWays (P:Program) (G:Nat) (call:CallF) (H:List Hold) (ops:Array Oper) (nb nf:Nat):Nat→List Ent→Option (Act × St)
 | 0,es=>match es with
   | [e]=>match Region.ready .any ops e.listed with
     | []=>some (e.a,e.S)
     | _ :: _=>none
   | _=>none
 | n+1,es=>match evSuccs P G call H ops nb nf es with
   | some es'=>evWays P G call H ops nb nf n es'
   | none=>none
/-- The first of the operations that may come next that hangs on nothing, or reads alone; what it gives; what is held. -/
def firstA (P:Program) (G:Nat) (ops:Array Oper) (H:List Hold) (listed:Array Bool) (a:Act) (S:St):List Nat→Option (Nat × Oper × Value × List Hold)
 | []=>none
 | j :: rest=>match ops[j]? with
   | some o =>
     if Region.free .any ops listed j=true then
      if Region.wanted o (yielded ops a.tmps)=true then
       if o.op.operands.toList.all (okOpnd G)=true then
        match evStill P a o S with
        | some v=>some (j,o,v,H)
        | none=>match loadOf a o with
          | some (t,b,i)=>match ldA P S t b i with
            | some v=>if b<S.nb∧det S.nb 6 v=true then some (j,o,v,(t,b,i,v) :: H) else firstA P G ops H listed a S rest
            | none=>firstA P G ops H listed a S rest
          | none=>firstA P G ops H listed a S rest
       else firstA P G ops H listed a S rest
      else some (j,o,undef,H)
     else firstA P G ops H listed a S rest
   | none=>none
/-- A region's beginning: what hangs on nothing, or reads alone; how many steps are left; what is held. -/
def evA (P:Program) (G:Nat) (ops:Array Oper) (S:St):Nat→Array Bool→Act→List Hold→Nat × Array Bool × Act × List Hold
 | 0,listed,a,H=>(0,listed,a,H)
 | n+1,listed,a,H=>match Region.ready .any ops listed with
   | []=>(n+1,listed,a,H)
   | i :: rest=>match firstA P G ops H listed a S (i :: rest) with
     | some (j,o,v,H')=>if (i :: rest).contains j=true then evA P G ops S n (listed.setIfInBounds j true) (a.put o.dst v) H' else (n+1,listed,a,H)
     | none=>(n+1,listed,a,H)
/-- A region that draws its order. -/
def evDraw (P:Program) (G:Nat) (call:CallF) (ops:Array Oper) (n:Nat) (listed:Array Bool) (a:Act) (S:St):Option (Act × St) :=
 match evA P G ops S n listed a [] with
 | (m,listed',a1,H)=>match evWays P G call H ops S.nb S.nf m [⟨listed',a1,S,[]⟩] with
   | some r=>some r
   | none=>evWays P G call [] ops S.nb S.nf n [⟨listed,a,S,[]⟩]
def evC (P:Program) (G:Nat):Nat→CodeF
 | 0,_,_,_=>none
 | n+1,k,a,S=>match k with
   | .skip | .label _=>some (.normal,a,S)
   | .region _ ops draw=>if draw=true then
     if P.follows .mixedOrders=true∧Region.noSelect ops=true then match evDraw P G (runFn P (evC P G n)) ops ops.size (Array.replicate ops.size false) a S with
      | some (a',S')=>some (.normal,a',S')
      | none=>none
     else none
     else match evOps P G (runFn P (evC P G n)) ops ops.toList a S with
      | some (a',S')=>some (.normal,a',S')
      | none=>none
   | .seq x y=>match evC P G n x a S with
     | some (.normal,a',S')=>evC P G n y a' S'
     | r=>r
   | .cond x k1 k2=>if okOpnd G x=true then match a.eval x with
     | .bool b=>evC P G n (cond b k1 k2) a S
     | _=>none
     else none
   | .block id b=>match evC P G n b a S with
     | some (.exit j,a',S')=>if j=id then some (.normal,a',S') else some (.exit j,a',S')
     | r=>r
   | .loop b=>loopN (evC P G n b) n a S
   | .exit id=>some (.exit id,a,S)
   | .ret=>some (.ret,a,S)
   | _=>none
def evCall (P:Program) (G:Nat) (n:Nat):CallF:=runFn P (evC P G n)
/-- What a sound evaluation of calls means. -/
def CallOK (P:Program) (G:Nat) (w0:World) (call:CallF):Prop :=
 ∀ (f:FuncId) (args:Array Value) (S:St) (v:Value) (S':St),call f args S=some (v,S')→∀ (c:Ctx) (g:Gh) (w:World) (args':Array Value),Rel G w0 c g S w→args.size=args'.size →
   (∀ (i:Nat) (x y:Value),args[i]?=some x→args'[i]?=some y→VR c x y) →
   Calls P f args' w fun e w'=>∃ u c' g',e=.returned u∧c.le c'∧Rel G w0 c' g' S' w'∧VR c' v u
def CodeOK (P:Program) (G:Nat) (w0:World) (ev:CodeF):Prop :=
 ∀ (k:Code) (a:Act) (S:St) (e:AEx) (a':Act) (S':St),ev k a S=some (e,a',S')→∀ (c:Ctx) (g:Gh) (w:World) (ac:Act),Rel G w0 c g S w→ActR c a ac →
   k.wp P (fun e' ac' w'=>e'=e.out∧∃ c' g',c.le c'∧Rel G w0 c' g' S' w'∧ActR c' a' ac') ac w
theorem yielded_rel (h:ActR c a ac) (ops:Array Oper):yielded ops ac.tmps=yielded ops a.tmps:=by
 funext j
 unfold yielded
 cases hd:(ops[j]?).bind (·.dst) with
 | none=>rfl
 | some d =>
   simp only [Option.bind_some]
   by_cases hlt:d<a.tmps.size
   ·have h2:d<ac.tmps.size:=h.size ▸ hlt
    rw [Array.getElem?_eq_getElem hlt,Array.getElem?_eq_getElem h2]
    have hv:=h.get d _ _ (Array.getElem?_eq_getElem hlt) (Array.getElem?_eq_getElem h2)
    generalize a.tmps[d]=x at hv
    generalize ac.tmps[d]=y at hv
    cases hv <;> rfl
   ·have h2:¬ d<ac.tmps.size:=h.size ▸ hlt
    rw [Array.getElem?_eq_none (Nat.le_of_not_lt h2),Array.getElem?_eq_none (Nat.le_of_not_lt hlt)]
theorem callOf_run (h:Pre G w0 c g S w a ac o) {f:FuncId} {args:Array Value} (hc:callOf a o=some (f,args)) (hf:callable P f=true) :
  ∃ args',(execOp ac.eval o).run P w=.ok (.enter f args') w∧args.size=args'.size∧∀ (i:Nat) (x y:Value),args[i]?=some x→args'[i]?=some y→VR c x y:=by
 unfold callOf at hc
 split at hc
 ·rename_i k ho
  split at hc
  ·rename_i x hk
   split at hc
   ·rename_i f' first cap hx
    cases hc
    have hv:=h.ev (x:=x) (by simp [ho,Op.operands,Call.operands,hk])
    rw [hx] at hv
    generalize hu:ac.eval x=u at hv
    cases hv with
    | func _ _ first' _ cap' hl hh hl' hh' =>
      refine ⟨first' ++ k.args.map ac.eval ++ cap',?_,by simp [hl,hl'],fun i x y hx hy=>?_⟩
      ·unfold callable at hf
       split at hf
       ·rename_i fn hfn
        simp only [Bool.and_eq_true,Bool.not_eq_true',beq_eq_false_iff_ne,ne_eq] at hf
        simp only [execOp,ho,resolve,hk,hu,Deferred.ofValue,invoke,callFunc,Sem.run_bind,Sem.run_pure,Result.andThen_ok,program,Sem.run,hfn]
        rw [if_neg (by simpa using hf.1)]
        cases hb:fn.body with
        | none=>simp [hb] at hf
        | some b=>simp
       ·cases hf
      ·rw [Array.getElem?_append] at hx hy
       simp only [Array.size_append,Array.size_map,hl] at hx hy
       split at hx
       ·rename_i h1
        rw [if_pos h1] at hy
        rw [Array.getElem?_append] at hx hy
        rw [hl] at hx
        split at hx
        ·rename_i h2;rw [if_pos h2] at hy;exact hh _ _ _ hx hy
        ·rename_i h2
         rw [if_neg h2] at hy
         rw [Array.getElem?_map,Option.map_eq_some_iff] at hx hy
         obtain ⟨p,hp,rfl⟩:=hx
         obtain ⟨q,hq,rfl⟩:=hy
         rw [hp] at hq
         cases hq
         have hm:p ∈ k.args:=Array.mem_of_getElem? hp
         exact h.ev (by simp [ho,Op.operands,Call.operands,hm])
       ·rename_i h1
        rw [if_neg h1] at hy
        exact hh' _ _ _ hx hy
   ·cases hc
  ·cases hc
 ·cases hc
theorem evOps_ok {call:CallF} (hcall:CallOK P G w0 call) (ops:Array Oper):∀ (l:List Oper) (a:Act) (S:St) (a':Act) (S':St),evOps P G call ops l a S=some (a',S') →
  ∀ (c:Ctx) (g:Gh) (w:World) (ac:Act) (Q:Exit→Act→World→Prop),Rel G w0 c g S w→ActR c a ac →
    (∀ c' g' ac' w',c.le c'→Rel G w0 c' g' S' w'→ActR c' a' ac'→Q .normal ac' w')→wpList P ops Q l ac w:=by
 intro l
 induction l with
 | nil =>
   intro a S a' S' h c g w ac Q hR hA hQ
   simp only [evOps,Option.some.injEq,Prod.mk.injEq] at h
   obtain ⟨rfl,rfl⟩:=h
   exact hQ c g ac w (Ctx.le.refl _) hR hA
 | cons o rest ih =>
   intro a S a' S' h c g w ac Q hR hA hQ
   unfold evOps at h
   unfold wpList
   rw [yielded_rel hA]
   split at h
   ·rename_i hw
    rw [if_pos hw]
    split at h
    ·rename_i hop
     have hpre:Pre G w0 c g S w a ac o:=⟨hR,hA,hop⟩
     refine .inl ?_
     split at h
     ·rename_i f args hco
      split at h
      ·rename_i hf
       split at h
       ·rename_i v S1 hcl
        obtain ⟨args',hrun,hsz,hvr⟩:=callOf_run (P:=P) hpre hco hf
        unfold Oper.wp
        rw [hrun,Oper.upon_enter]
        refine (hcall f args S v S1 hcl c g w args' hR hsz hvr).mono ?_
        rintro e w' ⟨u,c',g',rfl,hle,hR',hv'⟩
        exact ih (a.put o.dst v) S1 a' S' h c' g' w' _ Q hR' ((hA.mono hle).put _ hv') fun c2 g2 ac2 w2 h1 h2 h3=>hQ c2 g2 ac2 w2 (hle.trans h1) h2 h3
       ·cases h
      ·cases h
     ·split at h
      ·rename_i v S1 hev
       obtain ⟨nx,w',c',g',hrun,hle,hR',hv'⟩:=evOp_done hpre hev
       unfold Oper.wp
       rw [hrun]
       rcases hv' with ⟨u,rfl,hvu⟩ | ⟨rfl,rfl⟩
       ·rw [Oper.upon_value]
        exact ih (a.put o.dst v) S1 a' S' h c' g' w' _ Q hR' ((hA.mono hle).put _ hvu) fun c2 g2 ac2 w2 h1 h2 h3=>hQ c2 g2 ac2 w2 (hle.trans h1) h2 h3
       ·rw [Oper.upon_skip]
        exact ih (a.put o.dst undef) S1 a' S' h c' g' w' _ Q hR' ((hA.mono hle).put _ (VR.undef c')) fun c2 g2 ac2 w2 h1 h2 h3=>hQ c2 g2 ac2 w2 (hle.trans h1) h2 h3
      ·cases h
    ·cases h
   ·rename_i hw
    rw [if_neg hw]
    exact ih (a.put o.dst undef) S a' S' h c g w _ Q hR (hA.put _ (VR.undef c)) hQ
theorem evOne_ok {call:CallF} (hcall:CallOK P G w0 call) (ops:Array Oper) {i:Nat} (hi:ops[i]?=some o) (h:evOps P G call ops [o] a S=some (a',S')) (hR:Rel G w0 c g S w) (hA:ActR c a ac) {Q:Exit→Act→World→Prop} {K:Act→World→Prop}
  (hK:∀ c' g' ac' w',c.le c'→Rel G w0 c' g' S' w'→ActR c' a' ac'→K ac' w'):wpOp P ops Q i K ac w:=by
 unfold evOps at h
 unfold wpOp
 simp only [hi]
 rw [yielded_rel hA]
 split at h
 ·rename_i hw
  rw [if_pos hw]
  split at h
  ·rename_i hop
   have hpre:Pre G w0 c g S w a ac o:=⟨hR,hA,hop⟩
   refine .inl ?_
   split at h
   ·rename_i f args hco
    split at h
    ·rename_i hf
     split at h
     ·rename_i v S1 hcl
      simp only [evOps,Option.some.injEq,Prod.mk.injEq] at h
      obtain ⟨rfl,rfl⟩:=h
      obtain ⟨args',hrun,hsz,hvr⟩:=callOf_run (P:=P) hpre hco hf
      unfold Oper.wp
      rw [hrun,Oper.upon_enter]
      refine (hcall f args S v S1 hcl c g w args' hR hsz hvr).mono ?_
      rintro e w' ⟨u,c',g',rfl,hle,hR',hv'⟩
      exact hK c' g' _ w' hle hR' ((hA.mono hle).put _ hv')
     ·cases h
    ·cases h
   ·split at h
    ·rename_i v S1 hev
     simp only [evOps,Option.some.injEq,Prod.mk.injEq] at h
     obtain ⟨rfl,rfl⟩:=h
     obtain ⟨nx,w',c',g',hrun,hle,hR',hv'⟩:=evOp_done hpre hev
     unfold Oper.wp
     rw [hrun]
     rcases hv' with ⟨u,rfl,hvu⟩ | ⟨rfl,rfl⟩
     ·rw [Oper.upon_value]
      exact hK c' g' _ w' hle hR' ((hA.mono hle).put _ hvu)
     ·rw [Oper.upon_skip]
      exact hK c' g' _ w' hle hR' ((hA.mono hle).put _ (VR.undef c'))
    ·cases h
  ·cases h
 ·rename_i hw
  rw [if_neg hw]
  simp only [evOps,Option.some.injEq,Prod.mk.injEq] at h
  obtain ⟨rfl,rfl⟩:=h
  exact hK c g _ w (Ctx.le.refl _) hR (hA.put _ (VR.undef c))
theorem stillH_ok {c0:Ctx} (hpre:Pre G w0 c g S w a ac o) (hc:c0.le c) {H:List Hold} (hd:HOK c0 H) (h:stillH P H a o S=some v) :
  ∃ u,VR c v u∧∀ w,HeldC P c0 H w→(execOp ac.eval o).run P w=.ok (.value u) w:=by
 unfold stillH at h
 split at h
 ·rename_i v' hv
  cases h
  obtain ⟨u,hvu,hrun⟩:=evStill_ok hpre hv
  exact ⟨u,hvu,fun w _=>hrun w⟩
 ·split at h
  ·rename_i t b i hl
   exact load_held hpre.rel hpre.act hc hd hl hpre.opnd (findH_mem h)
  ·cases h
theorem firstStill_ok {c0:Ctx} (ops:Array Oper) (listed:Array Bool) (hR:Rel G w0 c g S w) (hA:ActR c a ac) (hc:c0.le c) {H:List Hold} (hd:HOK c0 H):∀ (l:List Nat) (j:Nat) (o:Oper) (v:Value),firstStill P G H ops listed a S l=some (j,o,v) →
  ops[j]?=some o∧Region.free .any ops listed j=true∧∃ u,VR c v u∧YieldsIf P ops (HeldC P c0 H) o u ac:=by
 intro l
 induction l with
 | nil=>intro j o v h;cases h
 | cons k rest ih =>
   intro j o v h
   unfold firstStill at h
   split at h
   ·rename_i o' ho'
    split at h
    ·rename_i hw
     split at h
     ·rename_i v' hv'
      split at h
      ·rename_i hcc
       simp only [Option.some.injEq,Prod.mk.injEq] at h
       obtain ⟨rfl,rfl,rfl⟩:=h
       obtain ⟨u,hvu,hrun⟩:=stillH_ok (⟨hR,hA,hcc.1⟩:Pre G w0 c g S w a ac o') hc hd hv'
       exact ⟨ho',hcc.2,u,hvu,.inl ⟨by rw [yielded_rel hA];exact hw,hrun⟩⟩
      ·exact ih j o v h
     ·exact ih j o v h
    ·rename_i hw
     split at h
     ·rename_i hf
      simp only [Option.some.injEq,Prod.mk.injEq] at h
      obtain ⟨rfl,rfl,rfl⟩:=h
      exact ⟨ho',hf,undef,VR.undef c,.inr ⟨by rw [yielded_rel hA];simpa using hw,rfl⟩⟩
     ·exact ih j o v h
   ·cases h
theorem firstA_ok (ops:Array Oper) (listed:Array Bool) (hR:Rel G w0 c g S w) (hA:ActR c a ac) {H:List Hold} (hd:HOK c H) (hh:HeldC P c H w):∀ (l:List Nat) (j:Nat) (o:Oper) (v:Value) (H':List Hold),firstA P G ops H listed a S l=some (j,o,v,H') →
  ops[j]?=some o∧Region.free .any ops listed j=true∧HOK c H'∧HeldC P c H' w∧(∀ h ∈ H,h ∈ H')∧∃ u,VR c v u∧∀ H2:List Hold,(∀ h ∈ H',h ∈ H2)→HOK c H2→YieldsIf P ops (HeldC P c H2) o u ac:=by
 intro l
 induction l with
 | nil=>intro j o v H' h;cases h
 | cons k rest ih =>
   intro j o v H' h
   unfold firstA at h
   split at h
   ·rename_i o' ho'
    split at h
    ·rename_i hf
     split at h
     ·rename_i hw
      split at h
      ·rename_i hop
       have hpre:Pre G w0 c g S w a ac o':=⟨hR,hA,hop⟩
       split at h
       ·rename_i v' hv'
        simp only [Option.some.injEq,Prod.mk.injEq] at h
        obtain ⟨rfl,rfl,rfl,rfl⟩:=h
        obtain ⟨u,hvu,hrun⟩:=evStill_ok hpre hv'
        exact ⟨ho',hf,hd,hh,fun _ h=>h,u,hvu,fun H2 _ _=>.inl ⟨by rw [yielded_rel hA];exact hw,fun w _=>hrun w⟩⟩
       ·split at h
        ·rename_i t b i hl
         split at h
         ·rename_i v' hv'
          split at h
          ·rename_i hb
           simp only [Option.some.injEq,Prod.mk.injEq] at h
           obtain ⟨rfl,rfl,rfl,rfl⟩:=h
           obtain ⟨hbn,u,hrun,hvr⟩:=ldA_run hR hv'
           have hdet:det c.n 6 v'=true:=by rw [← hR.n];exact hb.2
           have hu:=det_conc (Ctx.le.refl c) 6 v' u hdet hvr
           subst hu
           have hd':HOK c ((t,b,i,v') :: H):=fun x hx=>by
            rcases List.mem_cons.1 hx with rfl | hx
            ·exact ⟨hbn,hdet,hvr⟩
            ·exact hd x hx
           refine ⟨ho',hf,hd',fun x hx=>?_,fun _ h=>List.mem_cons_of_mem _ h,conc c 6 v',hvr,fun H2 h2 hd2=>?_⟩
           ·rcases List.mem_cons.1 hx with rfl | hx
            ·exact hrun
            ·exact hh x hx
           ·obtain ⟨u2,hvu2,hrun2⟩:=load_held hR hA (Ctx.le.refl c) hd2 hl hop (v:=v') (h2 _ (by simp))
            have:=det_conc (Ctx.le.refl c) 6 v' u2 hdet hvu2
            subst this
            exact .inl ⟨by rw [yielded_rel hA];exact hw,hrun2⟩
          ·exact ih j o v H' h
         ·exact ih j o v H' h
        ·exact ih j o v H' h
      ·exact ih j o v H' h
     ·rename_i hw
      simp only [Option.some.injEq,Prod.mk.injEq] at h
      obtain ⟨rfl,rfl,rfl,rfl⟩:=h
      exact ⟨ho',hf,hd,hh,fun _ h=>h,undef,VR.undef c,fun _ _ _=>.inr ⟨by rw [yielded_rel hA];simpa using hw,rfl⟩⟩
    ·exact ih j o v H' h
   ·cases h
theorem evA_ok (ops:Array Oper) (hns:Region.noSelect ops=true) (hR:Rel G w0 c g S w) (Q:Exit→Act→World→Prop) (hP:∀ x a w,¬ Q (.panic x) a w):∀ (n:Nat) (listed:Array Bool) (a ac:Act) (H:List Hold) (m:Nat) (listed':Array Bool) (a':Act) (H':List Hold),evA P G ops S n listed a H=(m,listed',a',H')→ActR c a ac→HOK c H→HeldC P c H w →
  (∀ h ∈ H,h ∈ H')∧HOK c H'∧HeldC P c H' w∧∃ ac',ActR c a' ac'∧(wpAnyH P .any ops Q (HeldC P c H') m listed' ac' w→wpAnyH P .any ops Q (HeldC P c H') n listed ac w):=by
 intro n
 induction n with
 | zero =>
   intro listed a ac H m listed' a' H' h hA hd hh
   unfold evA at h
   cases h
   exact ⟨fun _ h=>h,hd,hh,ac,hA,fun h=>h⟩
 | succ n ih =>
   intro listed a ac H m listed' a' H' h hA hd hh
   unfold evA at h
   split at h
   ·cases h;exact ⟨fun _ h=>h,hd,hh,ac,hA,fun h=>h⟩
   ·rename_i i rest hr
    split at h
    ·rename_i j o v H1 hfa
     split at h
     ·rename_i hcon
      obtain ⟨hj,hfree,hd1,hh1,hsub,u,hvu,hy⟩:=firstA_ok ops listed hR hA hd hh _ _ _ _ _ hfa
      obtain ⟨hs2,hd2,hh2,ac',hA',hgo⟩:=ih _ _ _ _ _ _ _ _ h (hA.put _ hvu) hd1 hh1
      exact ⟨fun x hx=>hs2 x (hsub x hx),hd2,hh2,ac',hA',fun hw=>wpAnyH_take hj hns hfree (by rw [hr];exact hcon) (fun x a w hq=>absurd hq (hP x _ w)) (hy H' hs2 hd2) hh2 (hgo hw)⟩
     ·cases h;exact ⟨fun _ h=>h,hd,hh,ac,hA,fun h=>h⟩
    ·cases h;exact ⟨fun _ h=>h,hd,hh,ac,hA,fun h=>h⟩
theorem joins_ok {nb nf:Nat} {e e':Ent} {c0:Ctx} (hj:joins nb nf e e'=true) (hc:c0.le c) (hn:c0.n=nb) (hG:G≤nb) (hR:Rel G w0 c g e.S w) (hA:ActR c e.a ac) :
  e.listed=e'.listed∧∃ c' g',c0.le c'∧Rel G w0 c' g' e'.S w∧ActR c' e'.a ac:=by
 unfold joins at hj
 split at hj
 rename_i x y _
 simp only [Bool.and_eq_true,decide_eq_true_eq] at hj
 obtain ⟨hl,h1,h2⟩:=hj
 rw [hR.n] at h2
 exact ⟨Array.ext' hl,_,_,hc.ren (r:=⟨nb,x⟩) (Nat.le_of_eq hn),hR.ren (r:=⟨nb,x⟩) (t:=⟨nf,y⟩) hG h1,hA.ren h2⟩
/-- A way that goes on as one of these. -/
def Goes (G:Nat) (w0:World) (c0:Ctx) (es:List Ent) (listed:Array Bool) (ac:Act) (w:World):Prop :=
 ∃ e ∈ es,e.listed=listed∧∃ c g,c0.le c∧Rel G w0 c g e.S w∧ActR c e.a ac
theorem Goes.insert {nb nf:Nat} {c0:Ctx} (hn:c0.n=nb) (hG:G≤nb) (e:Ent):∀ (L:List Ent) {listed:Array Bool} {ac:Act} {w:World},Goes G w0 c0 (e :: L) listed ac w→Goes G w0 c0 (insertE nb nf e L) listed ac w:=by
 intro L
 induction L with
 | nil=>intro listed ac w h;exact h
 | cons e' rest ih =>
   intro listed ac w h
   unfold insertE
   obtain ⟨x,hx,hl,c,g,hc,hR,hA⟩:=h
   split
   ·rename_i hj
    rcases List.mem_cons.1 hx with rfl | hx
    ·obtain ⟨h1,c',g',h2,h3,h4⟩:=joins_ok hj hc hn hG hR hA
     exact ⟨e',by simp,h1.symm.trans hl,c',g',h2,h3,h4⟩
    ·exact ⟨x,hx,hl,c,g,hc,hR,hA⟩
   ·rcases List.mem_cons.1 hx with rfl | hx
    ·obtain ⟨y,hy,r⟩:=ih ⟨x,by simp,hl,c,g,hc,hR,hA⟩
     exact ⟨y,by simp [hy],r⟩
    ·rcases List.mem_cons.1 hx with rfl | hx
     ·exact ⟨x,by simp,hl,c,g,hc,hR,hA⟩
     ·obtain ⟨y,hy,r⟩:=ih ⟨x,by simp [hx],hl,c,g,hc,hR,hA⟩
      exact ⟨y,by simp [hy],r⟩
theorem Goes.fold {nb nf:Nat} {c0:Ctx} (hn:c0.n=nb) (hG:G≤nb) (L':List Ent) {listed:Array Bool} {ac:Act} {w:World}:∀ (L:List Ent),Goes G w0 c0 (L ++ L') listed ac w→Goes G w0 c0 (L.foldr (insertE nb nf) L') listed ac w:=by
 intro L
 induction L with
 | nil=>intro h;exact h
 | cons e rest ih =>
   intro h
   rw [List.foldr_cons]
   refine Goes.insert hn hG e _ ?_
   obtain ⟨x,hx,r⟩:=h
   rcases List.mem_cons.1 hx with rfl | hx
   ·exact ⟨x,by simp,r⟩
   ·obtain ⟨y,hy,r'⟩:=ih ⟨x,hx,r⟩
    exact ⟨y,by simp [hy],r'⟩
theorem evSuccs_ok {call:CallF} {H:List Hold} {ops:Array Oper} {nb nf:Nat} {c0:Ctx} (hn:c0.n=nb) (hG:G≤nb) {listed:Array Bool} {ac:Act} {w:World}:∀ (es es':List Ent),evSuccs P G call H ops nb nf es=some es'→∀ e ∈ es,∃ l,evSucc P G call H ops e=some l ∧
  ∀ (listed:Array Bool) (ac:Act) (w:World),Goes G w0 c0 l listed ac w→Goes G w0 c0 es' listed ac w:=by
 intro es
 induction es with
 | nil=>intro es' _ e he;cases he
 | cons e0 rest ih =>
   intro es' h e he
   unfold evSuccs at h
   split at h
   ·rename_i l l' hl hl'
    cases h
    rcases List.mem_cons.1 he with rfl | he
    ·exact ⟨l,hl,fun listed ac w ⟨x,hx,r⟩=>Goes.fold hn hG _ _ ⟨x,by simp [hx],r⟩⟩
    ·obtain ⟨l2,h2,h3⟩:=ih l' hl' e he
     refine ⟨l2,h2,fun listed ac w hg=>?_⟩
     obtain ⟨x,hx,r⟩:=h3 _ _ _ hg
     exact Goes.fold hn hG _ _ ⟨x,by simp [hx],r⟩
   ·cases h
theorem mapM_mem {f:Nat→Option Ent}:∀ (l:List Nat) (r:List Ent),l.mapM f=some r→∀ i ∈ l,∃ e ∈ r,f i=some e:=by
 intro l
 induction l with
 | nil=>intro r _ i hi;cases hi
 | cons x rest ih =>
   intro r h i hi
   rw [List.mapM_cons] at h
   cases hx:f x with
   | none=>rw [hx] at h;cases h
   | some e =>
     rw [hx] at h
     cases hr:rest.mapM f with
     | none=>rw [hr] at h;cases h
     | some r' =>
       rw [hr] at h
       cases h
       rcases List.mem_cons.1 hi with rfl | hi
       ·exact ⟨e,by simp,hx⟩
       ·obtain ⟨e',he',h'⟩:=ih r' hr i hi
        exact ⟨e',by simp [he'],h'⟩
theorem evWays_ok {call:CallF} (hcall:CallOK P G w0 call) (ops:Array Oper) (hns:Region.noSelect ops=true) {nb nf:Nat} {c0:Ctx} (hn:c0.n=nb) (hG:G≤nb) {H:List Hold} (hd:HOK c0 H):∀ (n:Nat) (es:List Ent) (a':Act) (S':St),evWays P G call H ops nb nf n es=some (a',S') →
  ∀ (listed:Array Bool) (w:World) (ac:Act) (Q:Exit→Act→World→Prop),HeldC P c0 H w→Goes G w0 c0 es listed ac w→(∀ x a w,¬ Q (.panic x) a w) →
    (∀ c' g' ac' w',c0.le c'→Rel G w0 c' g' S' w'→ActR c' a' ac'→Q .normal ac' w')→wpAnyH P .any ops Q (HeldC P c0 H) n listed ac w:=by
 intro n
 induction n with
 | zero =>
   intro es a' S' h listed w ac Q _ hg _ hQ
   unfold evWays at h
   split at h
   ·rename_i e
    obtain ⟨x,hx,rfl,c,g,hc,hR,hA⟩:=hg
    obtain rfl:x=e:=by simpa using hx
    split at h
    ·rename_i hr
     cases h
     exact wpAnyH_done hr (hQ c g ac w hc hR hA) 0
    ·cases h
   ·cases h
 | succ n ih =>
   intro es a' S' h listed w ac Q hH hg hP hQ
   unfold evWays at h
   split at h
   ·rename_i es' he
    obtain ⟨e,hmem,rfl,c,g,hc,hR,hA⟩:=hg
    obtain ⟨l,hl,hgo⟩:=evSuccs_ok (P:=P) (w0:=w0) (listed:=e.listed) (ac:=ac) (w:=w) hn hG es es' he e hmem
    unfold evSucc at hl
    split at hl
    ·cases hl
    ·rename_i i rest hr
     split at hl
     ·rename_i j o v hfs
      split at hl
      ·rename_i hcon
       cases hl
       obtain ⟨hj,hfree,u,hvu,hy⟩:=firstStill_ok (P:=P) ops e.listed hR hA hc hd _ _ _ _ hfs
       exact wpAnyH_take hj hns hfree (by rw [hr];exact hcon) (fun x a w hq=>absurd hq (hP x _ w)) hy hH
        (ih es' _ _ h _ w _ Q hH (hgo _ _ _ ⟨_,List.mem_singleton.2 rfl,rfl,c,g,hc,hR,hA.put _ hvu⟩) hP hQ)
      ·cases hl
     ·refine wpAnyH_all hr (by simp) (fun k hk=>?_)
      obtain ⟨e1,hm1,hk1⟩:=mapM_mem _ _ hl k hk
      unfold evNext at hk1
      split at hk1
      ·rename_i o hi
       split at hk1
       ·rename_i a1 S1 hev
        split at hk1
        ·rename_i hho
         cases hk1
         refine evOne_ok hcall ops hi hev hR hA fun c1 g1 ac1 w1 hle hR1 hA1=>?_
         have hH1:=holds_ok hR1 (hc.trans hle) hd hho
         exact ⟨hH1,ih es' _ _ h _ w1 ac1 Q hH1 (hgo _ _ _ ⟨_,hm1,rfl,c1,g1,hc.trans hle,hR1,hA1⟩) hP hQ⟩
        ·cases hk1
       ·cases hk1
      ·cases hk1
   ·cases h
theorem evDraw_ok {call:CallF} (hcall:CallOK P G w0 call) (ops:Array Oper) (hns:Region.noSelect ops=true) (n:Nat) (listed:Array Bool) (a:Act) (S:St) (a':Act) (S':St) (h:evDraw P G call ops n listed a S=some (a',S'))
  (c:Ctx) (g:Gh) (w:World) (ac:Act) (Q:Exit→Act→World→Prop) (hR:Rel G w0 c g S w) (hA:ActR c a ac) (hP:∀ x a w,¬ Q (.panic x) a w)
   (hQ:∀ c' g' ac' w',c.le c'→Rel G w0 c' g' S' w'→ActR c' a' ac'→Q .normal ac' w'):wpAny P .any ops Q n listed ac w:=by
 unfold evDraw at h
 split at h
 rename_i m listed' a1 H he
 split at h
 case h_2 =>
  exact wpAny_of_held _ _ _ _ (evWays_ok hcall ops hns hR.n.symm (by rw [hR.n];exact hR.glob.1) (H:=[]) (fun _ h=>by cases h) n _ _ _ h _ w ac Q (fun _ h=>by cases h) ⟨_,List.mem_singleton.2 rfl,rfl,c,g,Ctx.le.refl _,hR,hA⟩ hP hQ)
 rename_i r hw
 cases h
 obtain ⟨_,hd,hh,ac',hA',hgo⟩:=evA_ok ops hns hR Q hP n listed a ac [] m listed' a1 H he hA (fun _ h=>by cases h) (fun _ h=>by cases h)
 exact wpAny_of_held _ _ _ _ (hgo (evWays_ok hcall ops hns hR.n.symm (by rw [hR.n];exact hR.glob.1) hd m _ _ _ hw _ w ac' Q hh ⟨_,List.mem_singleton.2 rfl,rfl,c,g,Ctx.le.refl _,hR,hA'⟩ hP hQ))
def resSem (tmps:Array Value):ResultVar→Sem Value
 | .tmp t=>pure (tmps.getD t undef)
 | .cell b t=>do loadVar t (← asAddr (tmps.getD b undef))
theorem results_eq (fn:Func) (tmps:Array Value):results fn tmps=(do let vs ← fn.results.mapM (resSem tmps);pure (if h:vs.size=1 then vs[0] else .tuple vs)):=by
 unfold results
 congr
theorem results_run (hR:Rel G w0 c g S w) (hA:ActR c a ac) {fn:Func} (h:resultsA P S fn a.tmps=some v):∃ u,(results fn ac.tmps).run P w=.ok u w∧VR c v u:=by
 have one:∀ (r:ResultVar) (v:Value),resA P S a.tmps r=some v→∃ u,(resSem ac.tmps r).run P w=.ok u w∧VR c v u:=fun r v hr=>by
  cases r with
  | tmp t=>cases hr;exact ⟨_,rfl,hA.getD t⟩
  | cell b t =>
    simp only [resA] at hr
    split at hr
    ·rename_i b' off hb
     have hv:=hA.getD b
     rw [hb] at hv
     obtain ⟨hbn,u,hrun,hvr⟩:=ldA_run hR hr
     refine ⟨u,?_,hvr⟩
     simp only [resSem]
     generalize ac.tmps.getD b undef=x at hv ⊢
     cases hv with
     | ptr _ _ _=>simp [asAddr,hrun]
    ·cases hr
 have list:∀ (l:List ResultVar) (vs:List Value),l.mapM (m:=Option) (resA P S a.tmps)=some vs→∃ us:List Value,(l.mapM (resSem ac.tmps)).run P w=.ok us w∧us.length=vs.length∧∀ (i:Nat) (x y:Value),vs[i]?=some x→us[i]?=some y→VR c x y:=by
  intro l
  induction l with
  | nil=>intro vs h;simp only [List.mapM_nil,pure,Option.some.injEq] at h;subst h;exact ⟨[],rfl,rfl,fun i x y hx _=>by simp at hx⟩
  | cons r l ih =>
    intro vs h
    simp only [List.mapM_cons,bind,Option.bind_eq_some_iff] at h
    obtain ⟨v1,h1,h⟩:=h
    obtain ⟨vs',h2,h⟩:=h
    simp only [pure,Option.some.injEq] at h
    subst h
    obtain ⟨u1,hr1,hv1⟩:=one r v1 h1
    obtain ⟨us,hr2,hl,hv2⟩:=ih vs' h2
    refine ⟨u1 :: us,?_,by simp [hl],fun i x y hx hy=>?_⟩
    ·rw [List.mapM_cons,Sem.run_bind,hr1]
     simp only [Result.andThen_ok,Sem.run_bind,hr2,Sem.run_pure]
    ·cases i with
     | zero=>simp at hx hy;rw [← hx,← hy];exact hv1
     | succ i=>exact hv2 i x y (by simpa using hx) (by simpa using hy)
 unfold resultsA at h
 have harr:∀ us:List Value,(fn.results.toList.mapM (resSem ac.tmps)).run P w=.ok us w →
   (results fn ac.tmps).run P w=.ok (if h:us.toArray.size=1 then us.toArray[0] else .tuple us.toArray) w:=fun us hus=>by
  rw [results_eq,Array.mapM_eq_mapM_toList,Sem.run_bind,Sem.run_map,hus]
  rfl
 split at h
 ·rename_i v1 hvs
  cases h
  obtain ⟨us,hr,hl,hv⟩:=list _ _ hvs
  match us,hl with
  | [u],_=>exact ⟨u,by rw [harr _ hr];rfl,hv 0 _ _ rfl rfl⟩
 ·rename_i vs hne hvs
  cases h
  obtain ⟨us,hr,hl,hv⟩:=list _ _ hvs
  refine ⟨.tuple us.toArray,?_,.tuple _ _ (by simp [hl]) fun i x y hx hy=>hv i x y (by simpa using hx) (by simpa using hy)⟩
  rw [harr _ hr,dif_neg]
  intro h1
  have:vs.length=1:=by rw [← hl];simpa using h1
  match vs,this with
  | [x],_=>exact hne x rfl
 ·cases h
theorem runFn_ok {ev:CodeF} (hev:CodeOK P G w0 ev):CallOK P G w0 (runFn P ev):=by
 intro f args S v S' h c g w args' hR hsz hvr
 unfold runFn at h
 split at h
 ·rename_i fn hfn
  split at h
  ·rename_i k hk
   have hA:ActR c { tmps:=args ++ Array.replicate (fn.ntmps - args.size) undef,defers:=[] } { tmps:=args' ++ Array.replicate (fn.ntmps - args'.size) undef,defers:=[] }:=by
    refine ⟨by simp [hsz],fun i x y hx hy=>?_,rfl,rfl⟩
    simp only at hx hy
    rw [Array.getElem?_append] at hx hy
    rw [hsz] at hx
    split at hx
    ·rename_i h1;rw [if_pos h1] at hy;exact hvr i x y hx hy
    ·rename_i h1
     rw [if_neg h1] at hy
     rw [Array.getElem?_replicate] at hx hy
     split at hx
     ·rename_i h2
      rw [if_pos h2] at hy
      cases hx;cases hy
      exact VR.undef c
     ·cases hx
   have key:∀ (e:AEx) (a':Act) (S1:St),ev k { tmps:=args ++ Array.replicate (fn.ntmps - args.size) undef,defers:=[] } S=some (e,a',S1)→(e=.normal∨e=.ret)→(resultsA P S1 fn a'.tmps).map (fun v=>(v,S1))=some (v,S') →
     Calls P f args' w fun e w'=>∃ u c' g',e=.returned u∧c.le c'∧Rel G w0 c' g' S' w'∧VR c' v u:=fun e a' S1 he hee hres=>by
    rw [Option.map_eq_some_iff] at hres
    obtain ⟨v1,hv1,e1⟩:=hres
    cases e1
    refine calls_of_wp hfn hk (wp_mono (hev _ _ _ _ _ _ he c g w _ hR hA) ?_)
    rintro e' ac' w' ⟨rfl,c',g',hle,hR',hA'⟩
    obtain ⟨u,hu,hvu⟩:=results_run hR' hA' hv1
    rcases hee with rfl | rfl
    ·exact ⟨hA'.dc,u,hu,u,c',g',rfl,hle,hR',hvu⟩
    ·exact ⟨hA'.dc,u,hu,u,c',g',rfl,hle,hR',hvu⟩
   split at h
   ·rename_i a1 S1 he;exact key _ _ _ he (.inl rfl) h
   ·rename_i a1 S1 he;exact key _ _ _ he (.inr rfl) h
   ·cases h
  ·cases h
 ·cases h
theorem evC_ok (P:Program) (G:Nat) (w0:World):∀ n,CodeOK P G w0 (evC P G n):=by
 intro n
 induction n with
 | zero=>intro k a S e a' S' h;cases h
 | succ n ih =>
   intro k a S e a' S' h c g w ac hR hA
   have here:∀ {e:AEx},(a,S)=(a',S')→(fun (e':Exit) (ac':Act) (w':World)=>e'=e.out∧∃ c' g',c.le c'∧Rel G w0 c' g' S' w'∧ActR c' a' ac') e.out ac w:=fun hh=>by
    cases hh
    exact ⟨rfl,c,g,Ctx.le.refl _,hR,hA⟩
   cases k with
   | skip=>simp only [evC,Option.some.injEq,Prod.mk.injEq] at h;obtain ⟨rfl,rfl,rfl⟩:=h;exact wp_skip (here (e:=.normal) rfl)
   | label l=>simp only [evC,Option.some.injEq,Prod.mk.injEq] at h;obtain ⟨rfl,rfl,rfl⟩:=h;exact wp_label (here (e:=.normal) rfl)
   | exit id=>simp only [evC,Option.some.injEq,Prod.mk.injEq] at h;obtain ⟨rfl,rfl,rfl⟩:=h;exact wp_exit (here (e:=.exit id) rfl)
   | ret=>simp only [evC,Option.some.injEq,Prod.mk.injEq] at h;obtain ⟨rfl,rfl,rfl⟩:=h;exact wp_ret (here (e:=.ret) rfl)
   | region id ops draw =>
     simp only [evC] at h
     split at h
     ·rename_i hd
      subst hd
      split at h
      ·rename_i hm
       split at h
       ·rename_i a1 S1 he
        cases h
        exact wp_region_any hm.1 (evDraw_ok (runFn_ok ih) ops hm.2 _ _ _ _ _ _ he c g _ ac _ hR.drew hA (fun x a w hq=>by cases hq.1) fun c' g' ac' w' h1 h2 h3=>⟨rfl,c',g',h1,h2,h3⟩)
       ·cases h
      ·cases h
     ·rename_i hd
      obtain rfl:draw=false:=by simpa using hd
      split at h
      ·rename_i a1 S1 he
       cases h
       refine wp_region_list (evOps_ok (runFn_ok ih) ops ops.toList a S _ _ he c g w ac _ hR hA fun c' g' ac' w' h1 h2 h3=>⟨rfl,c',g',h1,h2,h3⟩)
      ·cases h
   | seq x y =>
     simp only [evC] at h
     split at h
     ·rename_i a1 S1 he
      refine wp_seq (wp_mono (ih x a S _ _ _ he c g w ac hR hA) ?_)
      rintro e' ac1 w1 ⟨rfl,c1,g1,hle,hR1,hA1⟩
      refine wp_mono (ih y a1 S1 _ _ _ h c1 g1 w1 ac1 hR1 hA1) ?_
      rintro e2 ac2 w2 ⟨rfl,c2,g2,hle2,hR2,hA2⟩
      exact ⟨rfl,c2,g2,hle.trans hle2,hR2,hA2⟩
     ·rename_i hne
      refine wp_seq (wp_mono (ih x a S _ _ _ h c g w ac hR hA) ?_)
      rintro e' ac1 w1 ⟨rfl,hrest⟩
      cases e with
      | normal=>exact absurd h (by simpa using hne a' S')
      | exit id=>exact ⟨rfl,hrest⟩
      | ret=>exact ⟨rfl,hrest⟩
   | cond x k1 k2 =>
     simp only [evC] at h
     split at h
     ·rename_i hx
      split at h
      ·rename_i b hb
       have hv:=eval_rel hR hA hx
       rw [hb] at hv
       refine wp_cond hv.bool_inv ?_
       have:=ih (cond b k1 k2) a S _ _ _ h c g w ac hR hA
       cases b
       ·exact this
       ·exact this
      ·cases h
     ·cases h
   | block id b =>
     simp only [evC] at h
     split at h
     ·rename_i j a1 S1 he
      refine wp_block (wp_mono (ih b a S _ _ _ he c g w ac hR hA) ?_)
      rintro e' ac1 w1 ⟨rfl,hrest⟩
      split at h
      ·rename_i hj
       cases h
       simp only [AEx.out,Exit.inBlock,hj,if_true]
       exact ⟨trivial,hrest⟩
      ·rename_i hj
       cases h
       simp only [AEx.out,Exit.inBlock,hj,if_false]
       exact ⟨trivial,hrest⟩
     ·rename_i hne
      refine wp_block (wp_mono (ih b a S _ _ _ h c g w ac hR hA) ?_)
      rintro e' ac1 w1 ⟨rfl,hrest⟩
      cases e with
      | normal=>exact ⟨rfl,hrest⟩
      | exit id=>exact absurd h (by simpa using hne id a' S')
      | ret=>exact ⟨rfl,hrest⟩
   | loop b =>
     simp only [evC] at h
     have key:∀ (m:Nat) (a:Act) (S:St) (c:Ctx) (g:Gh) (w:World) (ac:Act),loopN (evC P G n b) m a S=some (e,a',S')→Rel G w0 c g S w→ActR c a ac →
       Code.rounds P b (fun e' ac' w'=>e'=e.out∧∃ c' g',c.le c'∧Rel G w0 c' g' S' w'∧ActR c' a' ac') m ac w:=by
      intro m
      induction m with
      | zero=>intro a S c g w ac h;cases h
      | succ m ihm =>
        intro a S c g w ac h hR hA
        rw [rounds_succ]
        simp only [loopN] at h
        split at h
        ·rename_i a1 S1 he
         refine wp_mono (ih b a S _ _ _ he c g w ac hR hA) ?_
         rintro e' ac1 w1 ⟨rfl,c1,g1,hle,hR1,hA1⟩
         have hround:=ihm a1 S1 c1 g1 w1 ac1 h hR1 hA1
         have mono:∀ (m:Nat) (Q Q':Exit→Act→World→Prop),(∀ e a w,Q e a w→Q' e a w)→∀ a w,Code.rounds P b Q m a w→Code.rounds P b Q' m a w:=by
          intro m Q Q' hq
          induction m with
          | zero=>intro a w h;exact h
          | succ m ihm2 =>
            intro a w h
            rw [rounds_succ] at h ⊢
            refine wp_mono h fun e a w h=>?_
            cases e with
            | normal=>exact ihm2 a w h
            | _=>exact hq _ _ _ h
         refine mono m _ _ ?_ _ _ hround
         rintro e2 ac2 w2 ⟨rfl,c2,g2,hle2,hR2,hA2⟩
         exact ⟨rfl,c2,g2,hle.trans hle2,hR2,hA2⟩
        ·rename_i hne
         refine wp_mono (ih b a S _ _ _ h c g w ac hR hA) ?_
         rintro e' ac1 w1 ⟨rfl,hrest⟩
         cases e with
         | normal=>exact absurd h (by simpa using hne a' S')
         | exit id=>exact ⟨rfl,hrest⟩
         | ret=>exact ⟨rfl,hrest⟩
     exact wp_loop_rounds n (key n a S c g w ac h hR hA)
   | _=>simp only [evC] at h;cases h
theorem evCall_ok (P:Program) (G:Nat) (w0:World) (n:Nat):CallOK P G w0 (evCall P G n):=runFn_ok (evC_ok P G w0 n)
end Go.Am
namespace Go.Am
open Go Go.RowKit Go.ChangeShapes Go.WideShapes Go.ChangeAt
variable {P:Program} {G:Nat} {w0 w:World} {c:Ctx} {g:Gh} {S S':St}
def cellsAt (w:World) (x:Nat):Nat:=match w.heap[x]? with
 | some (.cells cur _ _)=>cur.size
 | _=>0
def St.start (G:Nat):St:={ nb:=G,blks:=.leaf,nf:=0,fams:=.leaf }
theorem Trie.get_leaf' {α:Type} (i:Nat):(Trie.leaf:Trie α).get i=none:=rfl
/-- Nothing is known yet. -/
theorem Rel.start (G:Nat) (w:World) (h:G≤w.heap.size) :
  Rel G w ⟨G,fun b=>(b,0),cellsAt w,fun _=>1⟩ ⟨fun _=>none,fun _=>0⟩ (St.start G) w :=
 ⟨rfl,⟨Nat.le_refl _,fun _ _=>rfl⟩,Below.refl _ _,fun b k hk=>(by cases hk),fun x φ hx=>(by cases hx),fun φ f hf=>(by cases hf),fun b hb=>Nat.lt_of_lt_of_le hb h⟩
/-- A package-level table. -/
def St.tab (S:St) (i:Nat) (cells:List Value):St :=
 { S with blks:=S.blks.set depth i ⟨1,cells,S.nf,0,0⟩,nf:=S.nf+1,fams:=S.fams.set depth S.nf ⟨0,cells.length,true⟩ }
theorem Rel.tab (h:Rel G w0 c g S w) {i:Nat} {cells:List Value} (hi:i<G) (hl:i<limit) (hf:S.nf<limit) (hes:c.es i=1) (hcz:∀ x,c.cz x=cellsAt w x) (hown:g.own i=none)
  (hc:∀ (j:Nat) (v:Value),cells[j]?=some v→w.cell? ⟨i,j,none⟩=some v∧af 8 v=true) (hne:cells≠[]):Rel G w0 c g (S.tab i cells) w:=by
 have hloc:=h.glob.2 i hi
 have hn:=Nat.lt_of_lt_of_le hi h.glob.1
 obtain ⟨v0,hv0⟩:∃ v,cells[0]?=some v:=by cases cells with
  | nil=>exact absurd rfl hne
  | cons v l=>exact ⟨v,rfl⟩
 obtain ⟨cur,e,fr,hheap⟩:∃ cur e fr,w.heap[i]?=some (.cells cur e fr):=by
  have h1:=(hc 0 v0 hv0).1
  unfold World.cell? at h1
  simp only at h1
  split at h1
  ·rename_i cur e fr hh;exact ⟨cur,e,fr,hh⟩
  ·cases h1
 have hcur:∀ (j:Nat) (v:Value),cells[j]?=some v→cur[j]?=some v:=fun j v hv=>by
  have h1:=(hc j v hv).1
  rwa [cell_of w i j cur e fr hheap] at h1
 refine ⟨h.n,h.glob,h.below,fun b k hk=>?_,fun x φ hx=>?_,fun φ f hf'=>?_,h.all⟩
 ·simp only [St.tab] at hk
  rw [Blk.get_set _ _ _ hl] at hk
  by_cases hb:b=i
  ·rw [if_pos hb] at hk
   cases hk
   subst hb
   refine ⟨⟨0,cells.length,true⟩,cur,e,fr,hn,hes,by simp [St.tab,Fam.get_set _ _ _ hf],by rw [hloc];exact hheap,by rw [hloc,hcz];simp [cellsAt,hheap],fun hr=>(by cases hr),fun _=>by rw [hloc];exact hown,?_,Nat.le_refl _,fun _=>by simp,fun _ j v hv=>?_⟩
   ·rw [hloc]
    simp only [Nat.zero_add]
    rcases Nat.eq_zero_or_pos cells.length with h0 | h0
    ·omega
    ·have:=hcur (cells.length - 1) _ (List.getElem?_eq_getElem (by omega))
     have:=(Array.getElem?_eq_some_iff.1 this).1
     omega
   ·rw [hloc]
    exact ⟨v,by simpa using hcur j v hv,af_refl c 8 v (hc j v hv).2⟩
  ·rw [if_neg hb] at hk
   obtain ⟨f,cur',e',fr',ok⟩:=h.blk b k hk
   have hfn:k.fam≠S.nf:=Nat.ne_of_lt (h.fam _ _ ok.fam)
   exact ⟨f,cur',e',fr',ok.keep (Ctx.le.refl _) (by simp [St.tab,Fam.get_set _ _ _ hf,hfn,ok.fam]) rfl ⟨rfl,rfl⟩⟩
 ·obtain ⟨h1,h2,h3⟩:=h.own x φ hx
  exact ⟨h1,h2,by simp [St.tab];omega⟩
 ·simp only [St.tab] at hf' ⊢
  rw [Fam.get_set _ _ _ hf] at hf'
  split at hf'
  ·omega
  ·have:=h.fam φ f hf';omega
/-- Cells that an argument leads to. -/
def St.arg (S:St) (sz:Nat) (cells:List Value):St :=
 { nb:=S.nb+1,blks:=S.blks.set depth S.nb ⟨sz,cells,S.nf,0,0⟩,nf:=S.nf+1,fams:=S.fams.set depth S.nf ⟨0,cells.length,true⟩ }
theorem Rel.arg (h:Rel G w0 c g S w) {x o sz:Nat} {cells:List Value} (hl:S.nb<limit) (hf:S.nf<limit) (hcz:∀ x,c.cz x=cellsAt w x) (hown:g.own x=none)
  {cur:Array Value} {e:TypeId} {fr:Nat × Nat} (hheap:w.heap[x]?=some (.cells cur e fr)) (hfit:o+cells.length≤cur.size) (hc:∀ (j:Nat) (v:Value),cells[j]?=some v→cur[o+j]?=some v∧af 8 v=true) :
  c.le (c.push x o (cellsAt w x) sz)∧Rel G w0 (c.push x o (cellsAt w x) sz) g (S.arg sz cells) w∧(c.push x o (cellsAt w x) sz).loc S.nb=(x,o)∧(c.push x o (cellsAt w x) sz).es S.nb=sz∧∀ y,(c.push x o (cellsAt w x) sz).cz y=cellsAt w y:=by
 have hn:=h.n
 have hle:c.le (c.push x o (cellsAt w x) sz):=Ctx.push_le _ _ _ _ _ fun b _ e=>hcz x
 have hx:x<w.heap.size:=(Array.getElem?_eq_some_iff.1 hheap).1
 refine ⟨hle,⟨by simp [Ctx.push,St.arg,hn],⟨Nat.le_trans h.glob.1 hle.n,fun i hi=>(hle.loc i (Nat.lt_of_lt_of_le hi h.glob.1)).trans (h.glob.2 i hi)⟩,h.below,fun b k hk=>?_,fun y φ hy=>?_,fun φ f hf'=>?_,fun b hb=>?_⟩,by simp [Ctx.push,hn],by simp [Ctx.push,hn],fun y=>by simp only [Ctx.push];split <;> simp_all⟩
 ·simp only [St.arg] at hk
  rw [Blk.get_set _ _ _ hl] at hk
  by_cases hb:b=S.nb
  ·rw [if_pos hb] at hk
   cases hk
   have hbn:b=c.n:=hb.trans hn
   refine ⟨⟨0,cells.length,true⟩,cur,e,fr,by simp [Ctx.push,hbn],by simp [Ctx.push,hbn],by simp [St.arg,Fam.get_set _ _ _ hf],by simp only [Ctx.push,hbn,if_true];exact hheap,by simp [Ctx.push,hbn,cellsAt,hheap],fun hr=>(by cases hr),fun _=>by simp only [Ctx.push,hbn,if_true];exact hown,
    by simp only [Ctx.push,hbn,if_true];exact hfit,Nat.le_refl _,fun _=>by simp,fun _ j v hv=>?_⟩
   exact ⟨v,by simp only [Ctx.push,hbn,if_true];exact (hc j v hv).1,af_refl _ 8 v (hc j v hv).2⟩
  ·rw [if_neg hb] at hk
   obtain ⟨f,cur',e',fr',ok⟩:=h.blk b k hk
   have hfn:k.fam≠S.nf:=Nat.ne_of_lt (h.fam _ _ ok.fam)
   exact ⟨f,cur',e',fr',ok.keep hle (by simp [St.arg,Fam.get_set _ _ _ hf,hfn,ok.fam]) rfl ⟨rfl,rfl⟩⟩
 ·obtain ⟨h1,h2,h3⟩:=h.own y φ hy
  exact ⟨h1,h2,by simp [St.arg];omega⟩
 ·simp only [St.arg] at hf' ⊢
  rw [Fam.get_set _ _ _ hf] at hf'
  split at hf'
  ·omega
  ·have:=h.fam φ f hf';omega
 ·simp only [Ctx.push] at hb ⊢
  split
  ·exact hx
  ·exact h.all b (by omega)
end Go.Am
