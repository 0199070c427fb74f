/- Joined texts. Conditions: as each theorem lists them. -/
import Derived.Test.YtccljifichaieaaDoorJ4c
set_option linter.unusedSimpArgs false
set_option linter.unusedVariables false
set_option maxRecDepth 100000
set_option maxHeartbeats 8000000
namespace Go.Proofs.YtccljifichaieaaDoor
open Go Go.RowKit
/-- Frames in memory, whoever's. -/
def Frs (w:World) (A:Option Addr) (n c:Nat) (fs:List Fr):Prop:=fs.length=n∧n≤c∧∃ cells,Rd w w.heap.size A (n * 9) cells∧FrsC w fs cells
theorem Frs.below {w w':World} {A:Option Addr} {n c:Nat} {fs:List Fr} (h:Frs w A n c fs) (hb:Below w.heap.size w w'):Frs w' A n c fs:=by
 obtain ⟨h1,h2,cells,h3,h4⟩:=h
 exact ⟨h1,h2,cells,(h3.below hb (Nat.le_refl _)).more hb.size,h4.below hb⟩
theorem FrsOwn.frs {w:World} {base:Nat} {A:Option Addr} {n c:Nat} {fs:List Fr} (h:FrsOwn w base (.slice A n c) fs) (hn:fs.length=n):Frs w A n c fs:=by
 obtain ⟨cells,h1,h2⟩:=h
 subst hn
 obtain ⟨A',c',e,hc,_,_,hr⟩:=own_form h1
 simp only [Value.slice.injEq] at e
 obtain ⟨rfl,_,rfl⟩:=e
 exact ⟨rfl,hc,cells,hr,h2⟩
/-- The k-th of them: its nine cells, read. -/
theorem Frs.get {w:World} {A:Option Addr} {n c:Nat} {fs:List Fr} (h:Frs w A n c fs) (k:Nat) (hk:k<n) :
  ∃ b off f A1 n1 c1 A2 n2 c2,A=some ⟨b,off,none⟩∧b<w.heap.size∧fs[k]?=some f∧FrC w f (frC f (.slice A1 n1 c1) (.slice A2 n2 c2))∧∀ (j:Nat) (u:Value),(frC f (.slice A1 n1 c1) (.slice A2 n2 c2))[j]?=some u→w.cell? ⟨b,off+k * 9+j,none⟩=some u:=by
 obtain ⟨h1,h2,cells,h3,h4⟩:=h
 obtain ⟨b,off,rfl,hb,hc⟩:=h3.2 (by omega)
 have hf:fs[k]?=some (fs[k]'(by omega)):=List.getElem?_eq_getElem (by omega)
 obtain ⟨cs,hcs,hj⟩:=h4.get k _ hf
 have hcs2:=hcs
 obtain ⟨A1,n1,c1,A2,n2,c2,rfl,_⟩:=hcs2
 refine ⟨b,off,_,A1,n1,c1,A2,n2,c2,rfl,hb,hf,hcs,fun j u hu=>?_⟩
 have hj9:j<9:=(List.getElem?_eq_some_iff.1 hu).1
 rw [Nat.add_assoc]
 exact hc _ u ((hj j hj9).trans hu)
end Go.Proofs.YtccljifichaieaaDoor
namespace Go.Proofs.YtccljifichaieaaDoor
open Go Go.RowKit Go.ChangeShapes Go.WideShapes Go.ChangeAt Go.WideMaps Go.WideElems
theorem mem_weightsAll {H:Type} {P:Program} {e:TypeId} {n:Nat} {x:DataW H}:∀ {l:List (DataW H)},x ∈ l→n ∈ x.weights P e→n ∈ DataW.weightsAll P e l
 | y :: l,h,hn=>by
   simp only [DataW.weightsAll,List.mem_append]
   rcases List.mem_cons.1 h with rfl | h
   ·exact .inl hn
   ·exact .inr (mem_weightsAll h hn)
/-- A slice of numbers, within a datum. -/
theorem row_of_trod {H:Type} {enc:TypeId × Value→H} {P:Program} {W:World} {fuel:Nat} {v:Value} {x:DataW H × List MemPlace} {t e:TypeId} {k:IntKind} (bz:Nat) (ht:P.underlying t=some (.slice e)) (he:P.underlying e=some (.int k)) (hc:P.cellsOf e=1) (hb:P.bytesOf e=bz)
  (h:DataW.trod enc P W 0 (fun _=>true) true fuel t [v]=some x) (hw:∀ n ∈ x.1.weights P t,n≤reachBytes) :
  ∃ (zs:List Int) (A:Option Addr) (c:Nat),v=.slice A zs.length c∧Rd W W.heap.size A zs.length (zs.map (Value.int k))∧zs.length≤c∧zs.length * bz≤reachBytes∧∀ n ∈ zs,(Lit.int k n).wf=true:=by
 rcases open_ints ht he hc h with ⟨hcs,hd⟩ | ⟨a,len0,cap0,zs,hcs,_,hl,hm,hz,hd,hcell,hwz⟩
 ·simp only [List.cons.injEq,and_true] at hcs
  subst hcs
  exact ⟨[],none,0,rfl,Rd.nil _ _ _,Nat.le_refl _,by simp,fun n hn=>by cases hn⟩
 ·simp only [List.cons.injEq,and_true] at hcs
  subst hcs
  simp only [if_true] at hz
  have hlen:(zs.take len0).length=len0:=by rw [List.length_take];omega
  refine ⟨zs.take len0,some a,cap0,by rw [hlen],⟨by simp,fun h0=>?_⟩,by omega,?_,fun n hn=>hwz n (List.mem_of_mem_take hn)⟩
  ·rw [hlen] at h0
   obtain ⟨b,off,spot⟩:=a
   have hc0:=hcell 0 (by omega)
   have hspot:spot=none:=by simpa [Addr.add] using World.cell?_spot hc0
   subst hspot
   refine ⟨b,off,rfl,World.block_lt_of_cell? W _ hc0,fun j u hu=>?_⟩
   rw [List.getElem?_map,Option.map_eq_some_iff] at hu
   obtain ⟨z,hz',rfl⟩:=hu
   rw [List.getElem?_take] at hz'
   split at hz'
   ·have hj:=(List.getElem?_eq_some_iff.1 hz').1
    have:=hcell j hj
    rw [Addr.add_lit] at this
    rw [this]
    simp [List.getD,hz']
   ·cases hz'
  ·rw [hd] at hw
   have:=hw (zs.length * bz) (by
    simp only [DataW.weights,ht,hb]
    refine List.mem_cons.2 (.inl ?_)
    congr 1
    simp [lits]
    omega)
   rw [hlen]
   exact Nat.le_trans (Nat.mul_le_mul_right _ (by omega)) this
theorem nine {α:Type} (l:List α) (h:l.length=9):∃ a0 a1 a2 a3 a4 a5 a6 a7 a8,l=[a0,a1,a2,a3,a4,a5,a6,a7,a8]:=by
 match l,h with
 | [a0,a1,a2,a3,a4,a5,a6,a7,a8],_=>exact ⟨a0,a1,a2,a3,a4,a5,a6,a7,a8,rfl⟩
theorem raw_of_trod {H:Type} {enc:TypeId × Value→H} {W:World} {fuel:Nat} {cs:List Value} {x:DataW H × List MemPlace} (h:DataW.trod enc Tryd.prog W 0 (fun _=>true) true fuel 48 cs=some x) (hw:∀ n ∈ x.1.weights Tryd.prog 48,n≤reachBytes) :
  ∃ r:Rw,cs=rwC r∧RawOk W r:=by
 obtain ⟨ys,n',_,hx,hcl,hyl,hf⟩:=DataW.trod_struct Tryd.underlying48 h
 rw [show Tryd.prog.cellsOf 48=9 by kernel_rfl] at hcl
 obtain ⟨v0,v1,v2,v3,v4,v5,v6,v7,v8,rfl⟩:=nine cs hcl
 have hyl':ys.length=9:=hyl
 obtain ⟨y0,y1,y2,y3,y4,y5,y6,y7,y8,rfl⟩:=nine ys hyl'
 have f0:DataW.trod enc Tryd.prog W 0 (fun _=>true) true n' 3 [v0]=some y0:=hf 0 _ rfl
 have f1:DataW.trod enc Tryd.prog W 0 (fun _=>true) true n' 3 [v1]=some y1:=hf 1 _ rfl
 have f2:DataW.trod enc Tryd.prog W 0 (fun _=>true) true n' 3 [v2]=some y2:=hf 2 _ rfl
 have f3:DataW.trod enc Tryd.prog W 0 (fun _=>true) true n' 3 [v3]=some y3:=hf 3 _ rfl
 have f4:DataW.trod enc Tryd.prog W 0 (fun _=>true) true n' 3 [v4]=some y4:=hf 4 _ rfl
 have f5:DataW.trod enc Tryd.prog W 0 (fun _=>true) true n' 3 [v5]=some y5:=hf 5 _ rfl
 have f6:DataW.trod enc Tryd.prog W 0 (fun _=>true) true n' 4 [v6]=some y6:=hf 6 _ rfl
 have f7:DataW.trod enc Tryd.prog W 0 (fun _=>true) true n' 24 [v7]=some y7:=hf 7 _ rfl
 have f8:DataW.trod enc Tryd.prog W 0 (fun _=>true) true n' 46 [v8]=some y8:=hf 8 _ rfl
 rw [hx] at hw
 have hwe:∀ n ∈ DataW.weightsEach Tryd.prog [3,3,3,3,3,3,4,24,46] [y0.1,y1.1,y2.1,y3.1,y4.1,y5.1,y6.1,y7.1,y8.1],n≤reachBytes:=fun n hn=>hw n (by
  simp only [DataW.weights,Tryd.underlying48]
  exact hn)
 obtain ⟨z0,e0,_,w0⟩:=DataW.trod_int Tryd.underlying3 f0
 obtain ⟨z1,e1,_,w1⟩:=DataW.trod_int Tryd.underlying3 f1
 obtain ⟨z2,e2,_,w2⟩:=DataW.trod_int Tryd.underlying3 f2
 obtain ⟨z3,e3,_,w3⟩:=DataW.trod_int Tryd.underlying3 f3
 obtain ⟨z4,e4,_,w4⟩:=DataW.trod_int Tryd.underlying3 f4
 obtain ⟨z5,e5,_,w5⟩:=DataW.trod_int Tryd.underlying3 f5
 obtain ⟨z6,e6,_⟩:=DataW.trod_bool Tryd.underlying4 f6
 obtain ⟨bz,A7,c7,e7,r7,l7,b7,w7⟩:=row_of_trod 1 Tryd.underlying24 Tryd.underlying5 (by kernel_rfl) (by kernel_rfl) f7 (fun n hn=>hwe n (DataW.weights_mem_each (j:=7) rfl rfl n hn))
 obtain ⟨iz,A8,c8,e8,r8,l8,b8,w8⟩:=row_of_trod 8 Tryd.underlying46 Tryd.underlying3 (by kernel_rfl) (by kernel_rfl) f8 (fun n hn=>hwe n (DataW.weights_mem_each (j:=8) rfl rfl n hn))
 obtain ⟨bs,rfl,hb⟩:=bytes_of bz w7
 simp only [List.cons.injEq,and_true] at e0 e1 e2 e3 e4 e5 e6
 subst e0 e1 e2 e3 e4 e5 e6 e7 e8
 unfold reachBytes at b7 b8
 refine ⟨⟨z0,z1,z2,z3,z4,z5,z6,A7,bs,c7,A8,iz,c8⟩,by simp [rwC],?_⟩
 simp only [List.length_map] at r7 l7 b7
 exact ⟨bounds_i64 w1,bounds_i64 w2,bounds_i64 w3,bounds_i64 w4,by simpa [bv,Function.comp_def] using r7,l7,by show bs.length≤_;omega,hb,r8,l8,by show iz.length≤_;omega,fun n hn=>bounds_i64 (w8 n hn)⟩
theorem raws_of (n:Nat) (p:Nat→Rw→Prop) (h:∀ j,j<n→∃ z,p j z):∃ zs:List Rw,zs.length=n∧∀ j r,zs[j]?=some r→p j r:=by
 induction n with
 | zero=>exact ⟨[],rfl,fun j r hj=>by simp at hj⟩
 | succ n ih =>
   obtain ⟨zs,hl,hz⟩:=ih fun j hj=>h j (by omega)
   obtain ⟨z,hzn⟩:=h n (by omega)
   refine ⟨zs ++ [z],by simp [hl],fun j r hj=>?_⟩
   rcases Nat.lt_or_ge j n with h1 | h1
   ·rw [List.getElem?_append_left (by omega)] at hj
    exact hz j r hj
   ·have hjl:=(List.getElem?_eq_some_iff.1 hj).1
    simp only [List.length_append,List.length_cons,List.length_nil] at hjl
    obtain rfl:j=n:=by omega
    rw [List.getElem?_append_right (by omega),hl,Nat.sub_self] at hj
    simp only [List.getElem?_cons_zero,Option.some.injEq] at hj
    subst hj;exact hzn
theorem open_raws {H:Type} {enc:TypeId × Value→H} {W:World} {base:Nat} {v:Value} {d:DataW H} {p:List MemPlace} {ts:List TypeId} {ds:List (DataW H)} (hval:Value.okWide Tryd.prog W .any base 23 v) (h:DataW.Trod enc Tryd.prog W 0 (fun _=>true) true 23 v d p)
  (hs:(DataW.weightsEach Tryd.prog ts ds).all (·≤reachBytes)=true) (j:Nat) (hj:ts[j]?=some 23) (hd:ds[j]?=some d):∃ A cap n rs,v=.slice A n cap∧IsRaws W A cap n rs:=by
 obtain ⟨a0,len0,cap0,rfl⟩:=okWide_slice Tryd.underlying23 hval
 have hw:∀ n ∈ d.weights Tryd.prog 23,n≤reachBytes:=fun n hn=>by
  have:=DataW.weights_mem_each hj hd n hn
  simpa using List.all_eq_true.1 hs n this
 obtain ⟨fuel,hf⟩:=h
 rcases Deep.open_slice Tryd.underlying23 hf with ⟨hcs,_⟩ | ⟨a,len,cap,m,n,D,Pl,hcs,_,hl,hm,hmm,hx,hi⟩
 ·simp [Value.cells] at hcs
  obtain ⟨rfl,rfl,rfl⟩:=hcs
  exact ⟨none,0,0,[],rfl,⟨rfl,Nat.le_refl _,by omega,fun h=>by omega⟩⟩
 ·simp [Value.cells] at hcs
  obtain ⟨rfl,rfl,rfl⟩:=hcs
  simp only [if_true] at hmm
  subst hmm
  simp only [Prod.mk.injEq] at hx
  rw [hx.1] at hw
  simp only [DataW.weights,Tryd.underlying23] at hw
  rw [show Tryd.prog.cellsOf 48=9 by kernel_rfl] at hi
  have hp:∀ j,j<len0→∃ r,RawOk W r∧∃ cs',W.cells? 0 (a.add (j * 9)) 9=some cs'∧cs'=rwC r:=fun j hj=>by
   obtain ⟨cs',hc,ht⟩:=hi j (by omega)
   obtain ⟨r,hr,hok⟩:=raw_of_trod ht (fun n hn=>hw n (List.mem_cons.2 (.inr (List.mem_append.2 (.inl (mem_weightsAll (List.mem_map.2 ⟨j,by simpa using hj,rfl⟩) hn))))))
   exact ⟨r,hok,cs',hc,hr⟩
  obtain ⟨rs,hrl,hrs⟩:=raws_of len0 _ hp
  refine ⟨some a,m,len0,rs,rfl,⟨hrl,hl,?_,fun h0=>?_⟩⟩
  ·have:=hw _ (List.mem_cons.2 (.inl rfl))
   rw [show Tryd.prog.bytesOf 48=104 by kernel_rfl] at this
   simp only [List.length_map,List.length_range] at this
   unfold reachBytes at this
   omega
  ·obtain ⟨cs0,hc0,_⟩:=hi 0 (by omega)
   obtain ⟨_,_,hat0⟩:=World.cells?_some hc0
   have hl0:cs0.length=9:=by obtain ⟨_,h2,_⟩:=World.cells?_some hc0;exact h2
   have hz:=hat0 0 (by omega)
   rw [List.getElem?_eq_getElem (by omega)] at hz
   obtain ⟨b,off,spot⟩:=a
   have hspot:spot=none:=by simpa [Addr.add] using World.cell?_spot hz
   subst hspot
   refine ⟨b,off,rfl,?_,fun k r hk=>?_⟩
   ·have:=World.block_lt_of_cell? W _ hz
    simpa [Addr.add] using this
   ·obtain ⟨hok,cs',hc,rfl⟩:=hrs k r hk
    refine ⟨hok,fun j u hu=>?_⟩
    obtain ⟨_,_,hat⟩:=World.cells?_some hc
    have hjl:=(List.getElem?_eq_some_iff.1 hu).1
    have:=hat j (by simpa [rwC] using hjl)
    rw [hu] at this
    rw [← this,Deep.add_add,Addr.add_lit]
    congr 2;omega
end Go.Proofs.YtccljifichaieaaDoor
namespace Go.Proofs.YtccljifichaieaaDoor
open Go Go.RowKit
/-- A frame of no fields: a Ping. -/
def ping:Fr:=⟨1,0,0,0,0,0,false,[],[]⟩
theorem ping_cells (w:World):FrC w ping (frC ping (.slice none 0 0) (.slice none 0 0)):=⟨none,0,0,none,0,0,rfl,rfl,rfl,own_nil _ _ _ _,own_nil _ _ _ _⟩
/-- x[p:] of a row of frames, as the walk writes its address. -/
theorem Rd.tail9 {w:World} {B n m c:Nat} {A:Option Addr} {xs:List Value} (h:Rd w B A (n * m) xs) (p:Nat) (hp:p≤n) (hn:n≤c):Rd w B (if c=p then A else A.map (·.add (p * m))) ((n - p) * m) (xs.drop (p * m)):=by
 refine ⟨by rw [List.length_drop,h.1,Nat.sub_mul],fun h0=>?_⟩
 have h1:0<n - p:=by
  rcases Nat.eq_zero_or_pos (n - p) with h | h
  ·rw [h,Nat.zero_mul] at h0;omega
  ·exact h
 have h2:0<n * m:=Nat.lt_of_lt_of_le h0 (Nat.mul_le_mul_right _ (Nat.sub_le _ _))
 obtain ⟨b,off,rfl,hlt,hc⟩:=h.2 h2
 refine ⟨b,off+p * m,by rw [if_neg (by omega)];simp [Addr.add_lit],hlt,fun j u hu=>?_⟩
 rw [List.getElem?_drop] at hu
 rw [Nat.add_assoc]
 exact hc (p * m+j) u hu
end Go.Proofs.YtccljifichaieaaDoor
