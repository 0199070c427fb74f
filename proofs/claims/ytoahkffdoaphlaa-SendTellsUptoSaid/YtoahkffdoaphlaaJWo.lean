/- Joined texts. Conditions: as each theorem lists them. -/
import Derived.Test.YtoahkffdoaphlaaJOp
import Derived.Test.YtoahkffdoaphlaaRows
set_option linter.unusedSimpArgs false
set_option linter.unusedVariables false
set_option maxRecDepth 100000
set_option maxHeartbeats 80000000
namespace Go.Proofs.Ytoahkffdoaphlaa.Se
open Go Go.RowKit Go.ChangeShapes Go.WideShapes Go.ChangeAt Go.WideMaps Go.WideElems Go.Proofs.Ytoahkffdoaphlaa
/-- A call, raw. -/
structure Rc where
 f0:Int
 f1:Int
 f2:Int
 f3:Int
 A4:Option Addr
 f4:List Nat
 c4:Nat
def rcC (r:Rc):List Value:=[.int .i64 r.f0,.int .i64 r.f1,.int .i64 r.f2,.int .i64 r.f3,.slice r.A4 r.f4.length r.c4]
structure RcOk (W:World) (r:Rc):Prop where
 b0:-9223372036854775808≤r.f0∧r.f0≤9223372036854775807
 b1:-9223372036854775808≤r.f1∧r.f1≤9223372036854775807
 b2:-9223372036854775808≤r.f2∧r.f2≤9223372036854775807
 b3:-9223372036854775808≤r.f3∧r.f3≤9223372036854775807
 r4:Rd W W.heap.size r.A4 r.f4.length (bv r.f4)
 l4:r.f4.length≤r.c4
 u4:r.f4.length≤140737488355328
 z4:∀ x ∈ r.f4,x<256
/-- A slice of calls. -/
structure CallsIn (W:World) (A:Option Addr) (cap n:Nat) (rs:List Rc):Prop where
 len:rs.length=n
 le:n≤cap
 rd:0<n→∃ b off,A=some ⟨b,off,none⟩∧b<W.heap.size∧∀ (k:Nat) (r:Rc),rs[k]?=some r→RcOk W r∧∀ (j:Nat) (u:Value),(rcC r)[j]?=some u→W.cell? ⟨b,off+k * 5+j,none⟩=some u
theorem one_le {H:Type} (d:DataW H):1≤Rows.uptoBulk d:=by
 cases d with
 | lit l=>cases l <;> simp [Rows.uptoBulk]
 | nil=>simp [Rows.uptoBulk]
 | ptr d=>simp [Rows.uptoBulk]
 | slice elems spare=>simp [Rows.uptoBulk]
 | agg parts=>simp [Rows.uptoBulk]
 | iface t d=>simp [Rows.uptoBulk]
 | map entries=>simp [Rows.uptoBulk]
 | held h=>simp [Rows.uptoBulk]
theorem length_le {H:Type} (l:List (DataW H)):l.length≤Rows.uptoBulkAll l:=by
 induction l with
 | nil=>simp [Rows.uptoBulkAll]
 | cons x r ih=>have:=one_le x;simp only [Rows.uptoBulkAll,List.length_cons];omega
theorem mem_weightsAll {H:Type} {P:Program} {e:TypeId} {n:Nat} {x:DataW H}:∀ {l:List (DataW H)},x ∈ l→n ∈ x.weights P e→n ∈ DataW.weightsAll P e l
 | y :: l,h,hn=>by
   simp only [DataW.weightsAll,List.mem_append]
   rcases List.mem_cons.1 h with rfl | h
   ·exact .inl hn
   ·exact .inr (mem_weightsAll h hn)
/-- A slice of numbers, within a datum. -/
theorem row_of_trod {H:Type} {enc:TypeId × Value→H} {P:Program} {W:World} {fuel:Nat} {v:Value} {x:DataW H × List MemPlace} {t e:TypeId} {k:IntKind} (bz:Nat) (ht:P.underlying t=some (.slice e)) (he:P.underlying e=some (.int k)) (hc:P.cellsOf e=1) (hb:P.bytesOf e=bz)
  (h:DataW.trod enc P W 0 (fun _=>true) true fuel t [v]=some x) (hw:∀ n ∈ x.1.weights P t,n≤reachBytes) :
  ∃ (zs:List Int) (A:Option Addr) (c:Nat),v=.slice A zs.length c∧Rd W W.heap.size A zs.length (zs.map (Value.int k))∧zs.length≤c∧zs.length * bz≤reachBytes∧∀ n ∈ zs,(Lit.int k n).wf=true:=by
 rcases open_ints ht he hc h with ⟨hcs,hd⟩ | ⟨a,len0,cap0,zs,hcs,_,hl,hm,hz,hd,hcell,hwz⟩
 ·simp only [List.cons.injEq,and_true] at hcs
  subst hcs
  exact ⟨[],none,0,rfl,Rd.nil _ _ _,Nat.le_refl _,by simp,fun n hn=>by cases hn⟩
 ·simp only [List.cons.injEq,and_true] at hcs
  subst hcs
  simp only [if_true] at hz
  have hlen:(zs.take len0).length=len0:=by rw [List.length_take];omega
  refine ⟨zs.take len0,some a,cap0,by rw [hlen],⟨by simp,fun h0=>?_⟩,by omega,?_,fun n hn=>hwz n (List.mem_of_mem_take hn)⟩
  ·rw [hlen] at h0
   obtain ⟨b,off,spot⟩:=a
   have hc0:=hcell 0 (by omega)
   have hspot:spot=none:=by simpa [Addr.add] using World.cell?_spot hc0
   subst hspot
   refine ⟨b,off,rfl,World.block_lt_of_cell? W _ hc0,fun j u hu=>?_⟩
   rw [List.getElem?_map,Option.map_eq_some_iff] at hu
   obtain ⟨z,hz',rfl⟩:=hu
   rw [List.getElem?_take] at hz'
   split at hz'
   ·have hj:=(List.getElem?_eq_some_iff.1 hz').1
    have:=hcell j hj
    rw [Addr.add_lit] at this
    rw [this]
    simp [List.getD,hz']
   ·cases hz'
  ·rw [hd] at hw
   have:=hw (zs.length * bz) (by
    simp only [DataW.weights,ht,hb]
    refine List.mem_cons.2 (.inl ?_)
    congr 1
    simp [lits]
    omega)
   rw [hlen]
   exact Nat.le_trans (Nat.mul_le_mul_right _ (by omega)) this
theorem slice_of_trod {H:Type} {enc:TypeId × Value→H} {P:Program} {W:World} {fuel:Nat} {v:Value} {x:DataW H × List MemPlace} {t e:TypeId} (ht:P.underlying t=some (.slice e)) (h:DataW.trod enc P W 0 (fun _=>true) true fuel t [v]=some x):∃ A n c,v=.slice A n c:=by
 rcases Deep.open_slice ht h with ⟨hcs,_⟩ | ⟨a,len,cap,m,n,D,Pl,hcs,_⟩
 ·exact ⟨none,0,0,by simpa using hcs⟩
 ·exact ⟨some a,len,cap,by simpa using hcs⟩
theorem the_n {α:Type} (l:List α) (h:l.length=5):∃ a0 a1 a2 a3 a4,l=[a0,a1,a2,a3,a4]:=by
 match l,h with
 | [a0,a1,a2,a3,a4],_=>exact ⟨a0,a1,a2,a3,a4,rfl⟩
theorem raw_of_trod {H:Type} {enc:TypeId × Value→H} {W:World} {fuel:Nat} {cs:List Value} {x:DataW H × List MemPlace} (h:DataW.trod enc Try.prog W 0 (fun _=>true) true fuel 32 cs=some x) (hw:∀ n ∈ x.1.weights Try.prog 32,n≤reachBytes) :
  ∃ r:Rc,cs=rcC r∧RcOk W r:=by
 obtain ⟨ys,n',_,hx,hcl,hyl,hf⟩:=DataW.trod_struct Try.underlying32 h
 rw [show Try.prog.cellsOf 32=5 by kernel_rfl] at hcl
 obtain ⟨v0,v1,v2,v3,v4,rfl⟩:=the_n cs hcl
 have hyl':ys.length=5:=hyl
 obtain ⟨y0,y1,y2,y3,y4,rfl⟩:=the_n ys hyl'
 have f0:DataW.trod enc Try.prog W 0 (fun _=>true) true n' 3 [v0]=some y0:=hf 0 _ rfl
 have f1:DataW.trod enc Try.prog W 0 (fun _=>true) true n' 3 [v1]=some y1:=hf 1 _ rfl
 have f2:DataW.trod enc Try.prog W 0 (fun _=>true) true n' 3 [v2]=some y2:=hf 2 _ rfl
 have f3:DataW.trod enc Try.prog W 0 (fun _=>true) true n' 3 [v3]=some y3:=hf 3 _ rfl
 have f4:DataW.trod enc Try.prog W 0 (fun _=>true) true n' 30 [v4]=some y4:=hf 4 _ rfl
 rw [hx] at hw
 have hwe:∀ n ∈ DataW.weightsEach Try.prog [3,3,3,3,30] [y0.1,y1.1,y2.1,y3.1,y4.1],n≤reachBytes:=fun n hn=>hw n (by
  simp only [DataW.weights,Try.underlying32]
  exact hn)
 obtain ⟨z0,e0,_,w0⟩:=DataW.trod_int Try.underlying3 f0
 obtain ⟨z1,e1,_,w1⟩:=DataW.trod_int Try.underlying3 f1
 obtain ⟨z2,e2,_,w2⟩:=DataW.trod_int Try.underlying3 f2
 obtain ⟨z3,e3,_,w3⟩:=DataW.trod_int Try.underlying3 f3
 obtain ⟨iz4,A4,c4,e4,r4,l4,b4,w4⟩:=row_of_trod 1 Try.underlying30 Try.underlying5 (by kernel_rfl) (by kernel_rfl) f4 (fun n hn=>hwe n (DataW.weights_mem_each (j:=4) rfl rfl n hn))
 obtain ⟨bs4,rfl,hb4⟩:=bytes_of iz4 w4
 unfold reachBytes at b4
 simp only [List.length_map] at e4 r4 l4 b4
 have r4':Rd W W.heap.size A4 bs4.length (bv bs4):=by simpa [bv,Function.comp_def] using r4
 simp only [List.cons.injEq,and_true] at e0 e1 e2 e3
 subst e0 e1 e2 e3 e4
 exact ⟨⟨z0,z1,z2,z3,A4,bs4,c4⟩,rfl,⟨bounds_i64 w0,bounds_i64 w1,bounds_i64 w2,bounds_i64 w3,r4',l4,by show bs4.length≤_;omega,hb4⟩⟩
theorem raws_of (n:Nat) (p:Nat→Rc→Prop) (h:∀ j,j<n→∃ z,p j z):∃ zs:List Rc,zs.length=n∧∀ j r,zs[j]?=some r→p j r:=by
 induction n with
 | zero=>exact ⟨[],rfl,fun j r hj=>by simp at hj⟩
 | succ n ih =>
   obtain ⟨zs,hl,hz⟩:=ih fun j hj=>h j (by omega)
   obtain ⟨z,hzn⟩:=h n (by omega)
   refine ⟨zs ++ [z],by simp [hl],fun j r hj=>?_⟩
   rcases Nat.lt_or_ge j n with h1 | h1
   ·rw [List.getElem?_append_left (by omega)] at hj
    exact hz j r hj
   ·have hjl:=(List.getElem?_eq_some_iff.1 hj).1
    simp only [List.length_append,List.length_cons,List.length_nil] at hjl
    obtain rfl:j=n:=by omega
    rw [List.getElem?_append_right (by omega),hl,Nat.sub_self] at hj
    simp only [List.getElem?_cons_zero,Option.some.injEq] at hj
    subst hj;exact hzn
theorem open_calls {H:Type} {enc:TypeId × Value→H} {W:World} {base:Nat} {v:Value} {d:DataW H} {p:List MemPlace} {ts:List TypeId} {ds:List (DataW H)} (hval:Value.okWide Try.prog W .any base 22 v) (h:DataW.Trod enc Try.prog W 0 (fun _=>true) true 22 v d p)
  (hs:(DataW.weightsEach Try.prog ts ds).all (·≤reachBytes)=true) (j:Nat) (hj:ts[j]?=some 22) (hd:ds[j]?=some d):∃ A n cap rs,v=.slice A n cap∧CallsIn W A cap n rs∧n≤Rows.uptoBulk d:=by
 obtain ⟨a0,len0,cap0,rfl⟩:=okWide_slice Try.underlying22 hval
 have hw:∀ n ∈ d.weights Try.prog 22,n≤reachBytes:=fun n hn=>by
  have:=DataW.weights_mem_each hj hd n hn
  simpa using List.all_eq_true.1 hs n this
 obtain ⟨fuel,hf⟩:=h
 rcases Deep.open_slice Try.underlying22 hf with ⟨hcs,_⟩ | ⟨a,len,cap,m,n,D,Pl,hcs,_,hl,hm,hmm,hx,hi⟩
 ·simp [Value.cells] at hcs
  obtain ⟨rfl,rfl,rfl⟩:=hcs
  exact ⟨none,0,0,[],rfl,⟨rfl,Nat.le_refl _,fun h=>by omega⟩,Nat.zero_le _⟩
 ·simp [Value.cells] at hcs
  obtain ⟨rfl,rfl,rfl⟩:=hcs
  simp only [if_true] at hmm
  subst hmm
  simp only [Prod.mk.injEq] at hx
  rw [hx.1] at hw
  simp only [DataW.weights,Try.underlying22] at hw
  rw [show Try.prog.cellsOf 32=5 by kernel_rfl] at hi
  have hp:∀ j,j<len0→∃ r,RcOk W r∧∃ cs',W.cells? 0 (a.add (j * 5)) 5=some cs'∧cs'=rcC r:=fun j hj=>by
   obtain ⟨cs',hc,ht⟩:=hi j (by omega)
   obtain ⟨r,hr,hok⟩:=raw_of_trod ht (fun n hn=>hw n (List.mem_cons.2 (.inr (List.mem_append.2 (.inl (mem_weightsAll (List.mem_map.2 ⟨j,by simpa using hj,rfl⟩) hn))))))
   exact ⟨r,hok,cs',hc,hr⟩
  obtain ⟨rs,hrl,hrs⟩:=raws_of len0 _ hp
  have hbk:len0≤Rows.uptoBulk d:=by
   rw [hx.1]
   have h5:=length_le ((List.range len0).map D)
   rw [List.length_map,List.length_range] at h5
   simp only [Rows.uptoBulk]
   omega
  refine ⟨some a,len0,m,rs,rfl,⟨hrl,hl,fun h0=>?_⟩,hbk⟩
  obtain ⟨cs0,hc0,_⟩:=hi 0 (by omega)
  obtain ⟨_,_,hat0⟩:=World.cells?_some hc0
  have hl0:cs0.length=5:=by obtain ⟨_,h2,_⟩:=World.cells?_some hc0;exact h2
  have hz:=hat0 0 (by omega)
  rw [List.getElem?_eq_getElem (by omega)] at hz
  obtain ⟨b,off,spot⟩:=a
  have hspot:spot=none:=by simpa [Addr.add] using World.cell?_spot hz
  subst hspot
  refine ⟨b,off,rfl,?_,fun k r hk=>?_⟩
  ·have:=World.block_lt_of_cell? W _ hz
   simpa [Addr.add] using this
  ·obtain ⟨hok,cs',hc,rfl⟩:=hrs k r hk
   refine ⟨hok,fun j u hu=>?_⟩
   obtain ⟨_,_,hat⟩:=World.cells?_some hc
   have hjl:=(List.getElem?_eq_some_iff.1 hu).1
   have:=hat j (by simpa [rcC] using hjl)
   rw [hu] at this
   rw [← this,Deep.add_add,Addr.add_lit]
   all_goals (congr 2;omega)
end Go.Proofs.Ytoahkffdoaphlaa.Se
