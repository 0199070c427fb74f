/- Joined texts. Conditions: as each theorem lists them. -/
import Derived.Test.YtoahkffdoaphlaaJOp
import Derived.Test.YtoahkffdoaphlaaRows
import Derived.Test.YtoahkffdoaphlaaJZl
set_option linter.unusedSimpArgs false
set_option linter.unusedVariables false
set_option maxRecDepth 100000
set_option maxHeartbeats 80000000
namespace Go.Proofs.Ytoahkffdoaphlaa.Rw
open Go Go.RowKit Go.ChangeShapes Go.WideShapes Go.ChangeAt Go.WideMaps Go.WideElems Go.Proofs.Ytoahkffdoaphlaa
/-- A call, raw. -/
structure Rc where
 f0:Int
 f1:Int
 f2:Int
 f3:Int
 f4:Bool
 A5:Option Addr
 f5:List Nat
 c5:Nat
def rcC (r:Rc):List Value:=[.int .i64 r.f0,.int .i64 r.f1,.int .i64 r.f2,.int .i64 r.f3,.bool r.f4,.slice r.A5 r.f5.length r.c5]
structure RcOk (W:World) (r:Rc):Prop where
 b0:-9223372036854775808≤r.f0∧r.f0≤9223372036854775807
 b1:-9223372036854775808≤r.f1∧r.f1≤9223372036854775807
 b2:-9223372036854775808≤r.f2∧r.f2≤9223372036854775807
 b3:-9223372036854775808≤r.f3∧r.f3≤9223372036854775807
 r5:Rd W W.heap.size r.A5 r.f5.length (bv r.f5)
 l5:r.f5.length≤r.c5
 u5:r.f5.length≤140737488355328
 z5:∀ x ∈ r.f5,x<256
/-- A slice of calls. -/
structure CallsIn (W:World) (A:Option Addr) (cap n:Nat) (rs:List Rc):Prop where
 len:rs.length=n
 le:n≤cap
 rd:0<n→∃ b off,A=some ⟨b,off,none⟩∧b<W.heap.size∧∀ (k:Nat) (r:Rc),rs[k]?=some r→RcOk W r∧∀ (j:Nat) (u:Value),(rcC r)[j]?=some u→W.cell? ⟨b,off+k * 6+j,none⟩=some u
theorem one_le {H:Type} (d:DataW H):1≤Rows.uptoBulk d:=by
 cases d with
 | lit l=>cases l <;> simp [Rows.uptoBulk]
 | nil=>simp [Rows.uptoBulk]
 | ptr d=>simp [Rows.uptoBulk]
 | slice elems spare=>simp [Rows.uptoBulk]
 | agg parts=>simp [Rows.uptoBulk]
 | iface t d=>simp [Rows.uptoBulk]
 | map entries=>simp [Rows.uptoBulk]
 | held h=>simp [Rows.uptoBulk]
theorem length_le {H:Type} (l:List (DataW H)):l.length≤Rows.uptoBulkAll l:=by
 induction l with
 | nil=>simp [Rows.uptoBulkAll]
 | cons x r ih=>have:=one_le x;simp only [Rows.uptoBulkAll,List.length_cons];omega
theorem mem_weightsAll {H:Type} {P:Program} {e:TypeId} {n:Nat} {x:DataW H}:∀ {l:List (DataW H)},x ∈ l→n ∈ x.weights P e→n ∈ DataW.weightsAll P e l
 | y :: l,h,hn=>by
   simp only [DataW.weightsAll,List.mem_append]
   rcases List.mem_cons.1 h with rfl | h
   ·exact .inl hn
   ·exact .inr (mem_weightsAll h hn)
/-- A slice of numbers, within a datum. -/
theorem row_of_trod {H:Type} {enc:TypeId × Value→H} {P:Program} {W:World} {fuel:Nat} {v:Value} {x:DataW H × List MemPlace} {t e:TypeId} {k:IntKind} (bz:Nat) (ht:P.underlying t=some (.slice e)) (he:P.underlying e=some (.int k)) (hc:P.cellsOf e=1) (hb:P.bytesOf e=bz)
  (h:DataW.trod enc P W 0 (fun _=>true) true fuel t [v]=some x) (hw:∀ n ∈ x.1.weights P t,n≤reachBytes) :
  ∃ (zs:List Int) (A:Option Addr) (c:Nat),v=.slice A zs.length c∧Rd W W.heap.size A zs.length (zs.map (Value.int k))∧zs.length≤c∧zs.length * bz≤reachBytes∧∀ n ∈ zs,(Lit.int k n).wf=true:=by
 rcases open_ints ht he hc h with ⟨hcs,hd⟩ | ⟨a,len0,cap0,zs,hcs,_,hl,hm,hz,hd,hcell,hwz⟩
 ·simp only [List.cons.injEq,and_true] at hcs
  subst hcs
  exact ⟨[],none,0,rfl,Rd.nil _ _ _,Nat.le_refl _,by simp,fun n hn=>by cases hn⟩
 ·simp only [List.cons.injEq,and_true] at hcs
  subst hcs
  simp only [if_true] at hz
  have hlen:(zs.take len0).length=len0:=by rw [List.length_take];omega
  refine ⟨zs.take len0,some a,cap0,by rw [hlen],⟨by simp,fun h0=>?_⟩,by omega,?_,fun n hn=>hwz n (List.mem_of_mem_take hn)⟩
  ·rw [hlen] at h0
   obtain ⟨b,off,spot⟩:=a
   have hc0:=hcell 0 (by omega)
   have hspot:spot=none:=by simpa [Addr.add] using World.cell?_spot hc0
   subst hspot
   refine ⟨b,off,rfl,World.block_lt_of_cell? W _ hc0,fun j u hu=>?_⟩
   rw [List.getElem?_map,Option.map_eq_some_iff] at hu
   obtain ⟨z,hz',rfl⟩:=hu
   rw [List.getElem?_take] at hz'
   split at hz'
   ·have hj:=(List.getElem?_eq_some_iff.1 hz').1
    have:=hcell j hj
    rw [Addr.add_lit] at this
    rw [this]
    simp [List.getD,hz']
   ·cases hz'
  ·rw [hd] at hw
   have:=hw (zs.length * bz) (by
    simp only [DataW.weights,ht,hb]
    refine List.mem_cons.2 (.inl ?_)
    congr 1
    simp [lits]
    omega)
   rw [hlen]
   exact Nat.le_trans (Nat.mul_le_mul_right _ (by omega)) this
theorem slice_of_trod {H:Type} {enc:TypeId × Value→H} {P:Program} {W:World} {fuel:Nat} {v:Value} {x:DataW H × List MemPlace} {t e:TypeId} (ht:P.underlying t=some (.slice e)) (h:DataW.trod enc P W 0 (fun _=>true) true fuel t [v]=some x):∃ A n c,v=.slice A n c:=by
 rcases Deep.open_slice ht h with ⟨hcs,_⟩ | ⟨a,len,cap,m,n,D,Pl,hcs,_⟩
 ·exact ⟨none,0,0,by simpa using hcs⟩
 ·exact ⟨some a,len,cap,by simpa using hcs⟩
theorem the_n {α:Type} (l:List α) (h:l.length=6):∃ a0 a1 a2 a3 a4 a5,l=[a0,a1,a2,a3,a4,a5]:=by
 match l,h with
 | [a0,a1,a2,a3,a4,a5],_=>exact ⟨a0,a1,a2,a3,a4,a5,rfl⟩
theorem raw_of_trod {H:Type} {enc:TypeId × Value→H} {W:World} {fuel:Nat} {cs:List Value} {x:DataW H × List MemPlace} (h:DataW.trod enc Try.prog W 0 (fun _=>true) true fuel 69 cs=some x) (hw:∀ n ∈ x.1.weights Try.prog 69,n≤reachBytes) :
  ∃ r:Rc,cs=rcC r∧RcOk W r:=by
 obtain ⟨ys,n',_,hx,hcl,hyl,hf⟩:=DataW.trod_struct Try.underlying69 h
 rw [show Try.prog.cellsOf 69=6 by kernel_rfl] at hcl
 obtain ⟨v0,v1,v2,v3,v4,v5,rfl⟩:=the_n cs hcl
 have hyl':ys.length=6:=hyl
 obtain ⟨y0,y1,y2,y3,y4,y5,rfl⟩:=the_n ys hyl'
 have f0:DataW.trod enc Try.prog W 0 (fun _=>true) true n' 3 [v0]=some y0:=hf 0 _ rfl
 have f1:DataW.trod enc Try.prog W 0 (fun _=>true) true n' 3 [v1]=some y1:=hf 1 _ rfl
 have f2:DataW.trod enc Try.prog W 0 (fun _=>true) true n' 3 [v2]=some y2:=hf 2 _ rfl
 have f3:DataW.trod enc Try.prog W 0 (fun _=>true) true n' 3 [v3]=some y3:=hf 3 _ rfl
 have f4:DataW.trod enc Try.prog W 0 (fun _=>true) true n' 4 [v4]=some y4:=hf 4 _ rfl
 have f5:DataW.trod enc Try.prog W 0 (fun _=>true) true n' 30 [v5]=some y5:=hf 5 _ rfl
 rw [hx] at hw
 have hwe:∀ n ∈ DataW.weightsEach Try.prog [3,3,3,3,4,30] [y0.1,y1.1,y2.1,y3.1,y4.1,y5.1],n≤reachBytes:=fun n hn=>hw n (by
  simp only [DataW.weights,Try.underlying69]
  exact hn)
 obtain ⟨z0,e0,_,w0⟩:=DataW.trod_int Try.underlying3 f0
 obtain ⟨z1,e1,_,w1⟩:=DataW.trod_int Try.underlying3 f1
 obtain ⟨z2,e2,_,w2⟩:=DataW.trod_int Try.underlying3 f2
 obtain ⟨z3,e3,_,w3⟩:=DataW.trod_int Try.underlying3 f3
 obtain ⟨z4,e4,_⟩:=DataW.trod_bool Try.underlying4 f4
 obtain ⟨iz5,A5,c5,e5,r5,l5,b5,w5⟩:=row_of_trod 1 Try.underlying30 Try.underlying5 (by kernel_rfl) (by kernel_rfl) f5 (fun n hn=>hwe n (DataW.weights_mem_each (j:=5) rfl rfl n hn))
 obtain ⟨bs5,rfl,hb5⟩:=bytes_of iz5 w5
 unfold reachBytes at b5
 simp only [List.length_map] at e5 r5 l5 b5
 have r5':Rd W W.heap.size A5 bs5.length (bv bs5):=by simpa [bv,Function.comp_def] using r5
 simp only [List.cons.injEq,and_true] at e0 e1 e2 e3 e4
 subst e0 e1 e2 e3 e4 e5
 exact ⟨⟨z0,z1,z2,z3,z4,A5,bs5,c5⟩,rfl,⟨bounds_i64 w0,bounds_i64 w1,bounds_i64 w2,bounds_i64 w3,r5',l5,by show bs5.length≤_;omega,hb5⟩⟩
theorem raws_of (n:Nat) (p:Nat→Rc→Prop) (h:∀ j,j<n→∃ z,p j z):∃ zs:List Rc,zs.length=n∧∀ j r,zs[j]?=some r→p j r:=by
 induction n with
 | zero=>exact ⟨[],rfl,fun j r hj=>by simp at hj⟩
 | succ n ih =>
   obtain ⟨zs,hl,hz⟩:=ih fun j hj=>h j (by omega)
   obtain ⟨z,hzn⟩:=h n (by omega)
   refine ⟨zs ++ [z],by simp [hl],fun j r hj=>?_⟩
   rcases Nat.lt_or_ge j n with h1 | h1
   ·rw [List.getElem?_append_left (by omega)] at hj
    exact hz j r hj
   ·have hjl:=(List.getElem?_eq_some_iff.1 hj).1
    simp only [List.length_append,List.length_cons,List.length_nil] at hjl
    obtain rfl:j=n:=by omega
    rw [List.getElem?_append_right (by omega),hl,Nat.sub_self] at hj
    simp only [List.getElem?_cons_zero,Option.some.injEq] at hj
    subst hj;exact hzn
theorem open_calls {H:Type} {enc:TypeId × Value→H} {W:World} {base:Nat} {v:Value} {d:DataW H} {p:List MemPlace} {ts:List TypeId} {ds:List (DataW H)} (hval:Value.okWide Try.prog W .any base 63 v) (h:DataW.Trod enc Try.prog W 0 (fun _=>true) true 63 v d p)
  (hs:(DataW.weightsEach Try.prog ts ds).all (·≤reachBytes)=true) (j:Nat) (hj:ts[j]?=some 63) (hd:ds[j]?=some d):∃ A n cap rs,v=.slice A n cap∧CallsIn W A cap n rs∧n≤Rows.uptoBulk d∧n * 64≤140737488351232:=by
 obtain ⟨a0,len0,cap0,rfl⟩:=okWide_slice Try.underlying63 hval
 have hw:∀ n ∈ d.weights Try.prog 63,n≤reachBytes:=fun n hn=>by
  have:=DataW.weights_mem_each hj hd n hn
  simpa using List.all_eq_true.1 hs n this
 obtain ⟨fuel,hf⟩:=h
 rcases Deep.open_slice Try.underlying63 hf with ⟨hcs,_⟩ | ⟨a,len,cap,m,n,D,Pl,hcs,_,hl,hm,hmm,hx,hi⟩
 ·simp [Value.cells] at hcs
  obtain ⟨rfl,rfl,rfl⟩:=hcs
  exact ⟨none,0,0,[],rfl,⟨rfl,Nat.le_refl _,fun h=>by omega⟩,Nat.zero_le _,by decide⟩
 ·simp [Value.cells] at hcs
  obtain ⟨rfl,rfl,rfl⟩:=hcs
  simp only [if_true] at hmm
  subst hmm
  simp only [Prod.mk.injEq] at hx
  rw [hx.1] at hw
  simp only [DataW.weights,Try.underlying63] at hw
  rw [show Try.prog.cellsOf 69=6 by kernel_rfl] at hi
  have hp:∀ j,j<len0→∃ r,RcOk W r∧∃ cs',W.cells? 0 (a.add (j * 6)) 6=some cs'∧cs'=rcC r:=fun j hj=>by
   obtain ⟨cs',hc,ht⟩:=hi j (by omega)
   obtain ⟨r,hr,hok⟩:=raw_of_trod ht (fun n hn=>hw n (List.mem_cons.2 (.inr (List.mem_append.2 (.inl (mem_weightsAll (List.mem_map.2 ⟨j,by simpa using hj,rfl⟩) hn))))))
   exact ⟨r,hok,cs',hc,hr⟩
  obtain ⟨rs,hrl,hrs⟩:=raws_of len0 _ hp
  have hbk:len0≤Rows.uptoBulk d:=by
   rw [hx.1]
   have h5:=length_le ((List.range len0).map D)
   rw [List.length_map,List.length_range] at h5
   simp only [Rows.uptoBulk]
   omega
  have hbz:len0 * 64≤140737488351232:=by
   have h6:=hw _ (List.mem_cons_self ..)
   rw [show Try.prog.bytesOf 69=64 by kernel_rfl] at h6
   simp only [List.length_map,List.length_range] at h6
   unfold reachBytes at h6
   omega
  refine ⟨some a,len0,m,rs,rfl,⟨hrl,hl,fun h0=>?_⟩,hbk,hbz⟩
  obtain ⟨cs0,hc0,_⟩:=hi 0 (by omega)
  obtain ⟨_,_,hat0⟩:=World.cells?_some hc0
  have hl0:cs0.length=6:=by obtain ⟨_,h2,_⟩:=World.cells?_some hc0;exact h2
  have hz:=hat0 0 (by omega)
  rw [List.getElem?_eq_getElem (by omega)] at hz
  obtain ⟨b,off,spot⟩:=a
  have hspot:spot=none:=by simpa [Addr.add] using World.cell?_spot hz
  subst hspot
  refine ⟨b,off,rfl,?_,fun k r hk=>?_⟩
  ·have:=World.block_lt_of_cell? W _ hz
   simpa [Addr.add] using this
  ·obtain ⟨hok,cs',hc,rfl⟩:=hrs k r hk
   refine ⟨hok,fun j u hu=>?_⟩
   obtain ⟨_,_,hat⟩:=World.cells?_some hc
   have hjl:=(List.getElem?_eq_some_iff.1 hu).1
   have:=hat j (by simpa [rcC] using hjl)
   rw [hu] at this
   rw [← this,Deep.add_add,Addr.add_lit]
   all_goals (congr 2;omega)
end Go.Proofs.Ytoahkffdoaphlaa.Rw
namespace Go.Proofs.Ytoahkffdoaphlaa.Re
open Go Go.RowKit Go.Proofs.Ytoahkffdoaphlaa Go.Proofs.Ytoahkffdoaphlaa.Sp Go.Proofs.Ytoahkffdoaphlaa.Se Go.Maps Go.Proofs.Ytoahkffdoaphlaa.Rw
structure FrS (s:Rs):Prop where
 ri:RI s (fun _=>0)
 rd:s.rd=s.tk
 rm:s.rm=400
 en:s.en=false
 br:s.br=false
 tl:s.tl≤s.tk+400
 tp:s.top≤478
theorem newR_FrS:FrS newR:=⟨newR_RI _,rfl,rfl,rfl,rfl,by show (400:Int)≤0+400;omega,by show (0:Int)≤478;omega⟩
theorem FrS.put {s:Rs} (h:FrS s) (a n:Nat) (ha:a<420) (hn:n<60) :
  ((a:Int)+(n:Int)≤s.tl∧∃ s1,putS s (a:Int) false (List.replicate n 0)=(s1.top - s.top,0,s1)∧FrS s1∧s1.top=(if n=0 then s.top else max s.top ((a:Int)+(n:Int)))∧s1.tk=s.tk∧s1.tl=s.tl)∨(¬ (a:Int)+(n:Int)≤s.tl∧putS s (a:Int) false (List.replicate n 0)=(0,7,s)):=by
 have hl:(List.replicate n 0).length=n:=List.length_replicate
 by_cases hc:(a:Int)+(n:Int)≤s.tl
 ·have hr:refuseS s ((a:Int)+((List.replicate n 0).length:Int)) false=0:=by
   rw [hl]
   unfold refuseS
   rw [if_neg (by omega),if_neg (by rw [h.en];simp)]
  have h1:=h.ri.put a false (List.replicate n 0) (fun i hi=>by rw [hl] at hi;simp [List.getD_eq_getElem?_getD,hi]) hr
  have h2:=put_form s a false (List.replicate n 0) (by rw [hl];omega) hr
  rw [hl] at h2
  have ht:topS s ((a:Int)+(n:Int)) false n=(if n=0 then s.top else max s.top ((a:Int)+(n:Int))):=by
   unfold topS
   simp
  refine .inl ⟨hc,(putS s (a:Int) false (List.replicate n 0)).2.2,?_,⟨h1.1,?_,?_,?_,?_,?_,?_⟩,?_,?_,?_⟩
  all_goals (try rw [h2])
  ·exact h.rd
  ·exact h.rm
  ·show (s.en || false)=false;rw [h.en];rfl
  ·exact h.br
  ·exact h.tl
  ·show topS s ((a:Int)+(n:Int)) false n≤478
   rw [ht]
   have:=h.tp
   split <;> omega
  ·exact ht
 ·refine .inr ⟨hc,?_⟩
  have hr:refuseS s ((a:Int)+((List.replicate n 0).length:Int)) false=7:=by
   rw [hl]
   unfold refuseS
   rw [if_pos (by omega)]
  unfold putS
  rw [if_neg (by rw [hl];omega),if_pos (by rw [hr];decide),hr]
theorem FrS.take {s:Rs} (h:FrS s) (most:Int) (m t:Nat) (hm:nS s most=(m:Int)) (ht:s.tk=(t:Int)) (K':Nat→Nat) (hK:∀ x,t+m≤x→K' x=s.K x):FrS (takenS s m K')∧(takenS s m K').rd=s.tk+(m:Int):=by
 have h1:=(h.ri.take most m t hm ht K' hK).1
 have h2:=nS_in h.ri.num h.ri.ok most
 have e:(takenS s m K').rd=s.tk+(m:Int):=by
  show s.rd+Cr.eatF (m:Int)=_
  rw [h.rd]
  unfold Cr.eatF
  omega
 exact ⟨⟨h1,e,h.rm,h.en,h.br,by show s.tl≤s.tk+(m:Int)+400;have:=h.tl;omega,h.tp⟩,e⟩
def toldS (s:Rs):Rs:=⟨s.es,s.rm,s.rd,max s.tl (s.rd+s.rm),s.top,s.tk,s.en,s.br,s.code,s.sure,s.K⟩
theorem FrS.tell {s:Rs} (h:FrS s):FrS (toldS s)∧max s.tl (s.rd+s.rm)=s.tk+400:=by
 have h1:=h.rd
 have h2:=h.rm
 have h3:=h.tl
 have h4:=h.ri.tk
 have h5:=h.tp
 have h6:=h.ri.top
 have e:max s.tl (s.rd+s.rm)=s.tk+400:=by rw [h1,h2];omega
 refine ⟨⟨⟨h.ri.ok,h.ri.lt,⟨h6.1,?_⟩,?_,h4,h.ri.kept,h.ri.had⟩,h1,h2,h.en,h.br,?_,h5⟩,e⟩
 ·show s.top≤max s.tl (s.rd+s.rm);omega
 ·show max s.tl (s.rd+s.rm)≤_;rw [e];omega
 ·show max s.tl (s.rd+s.rm)≤s.tk+400;rw [e];omega
section
variable {W w w':World} {p n:Nat} {F:List Nat} {s:Rs}
theorem tell_hr (h:HR W w p n F s) (hrd:0≤s.rd) (hrm:0≤s.rm) (hs:s.rd+s.rm≤9223372036854775807) :
  Calls Try.prog 38 #[.pointer (some ⟨p,1,none⟩)] w fun e w'=>e=.returned (.int .i64 (max s.tl (s.rd+s.rm)))∧∃ F',HR W w' p n F' (toldS s)∧Goes w w' F F':=by
 obtain ⟨v0,v4,h1⟩:=h.st
 exact (Cr.tell_any h1.gr hrd hrm hs).mono fun _ _ hh=>⟨hh.1,h.to (h1.toGr hh.2)⟩
theorem HR.drewN (h:HR W w p n F s) (q:Nat):HR W (w.drewN q) p n F s:=h.below ⟨rfl,rfl,rfl,Nat.le_refl _,fun _ _=>rfl⟩
theorem top_hr (h:HR W w p n F s):Calls Try.prog 45 #[.pointer (some ⟨p,0,none⟩)] w fun e w'=>e=.returned (.int .i64 s.top)∧w'=w:=by
 obtain ⟨v0,v4,h1⟩:=h.st
 exact top_rc h1
theorem rest_hr (h:HR W w p n F s) (ht:0≤s.top∧s.top≤4611686018427387903) (hk:0≤s.tk∧s.tk≤4611686018427387903):Calls Try.prog 47 #[.pointer (some ⟨p,0,none⟩)] w fun e w'=>e=.returned (.int .i64 (s.top - s.tk))∧∃ q,w'=w.drewN q:=by
 obtain ⟨v0,v4,h1⟩:=h.st
 exact rest_rc h1 ht hk
end
/-- What RecvFresh holds at each piece. -/
def FJ (w wr:World) (p j:Nat) (T t:Int):Prop:=∃ F s n,HR w wr p n F s∧FrS s∧s.top=T∧s.tk=t∧n≤60 * j
end Go.Proofs.Ytoahkffdoaphlaa.Re
