/- Joined texts. Conditions: as each theorem lists them. -/
import Derived.Test.YtoahkffdoaphlaaJWa
import Derived.Test.YtoahkffdoaphlaaJSg
import Derived.Test.YtoahkffdoaphlaaJKb
import Derived.Test.YtoahkffdoaphlaaJOp
set_option linter.unusedSimpArgs false
set_option linter.unusedVariables false
set_option maxRecDepth 100000
set_option maxHeartbeats 80000000
namespace Go.Proofs.Ytoahkffdoaphlaa.Se
open Go Go.RowKit Go.Proofs.Ytoahkffdoaphlaa Go.Proofs.Ytoahkffdoaphlaa.Sp
/-- The block that a slice leads to. -/
def fp:Value→List Nat
 | .slice (some a) _ _=>[a.block]
 | _=>[]
/-- The block that the elements of a slice lie in. -/
def fe:Value→List Nat
 | .slice (some a) (_+1) _=>[a.block]
 | _=>[]
theorem fe_mem {A:Option Addr} {n c k:Nat}:k ∈ fe (.slice A n c)↔0<n∧∃ a,A=some a∧a.block=k:=by
 cases A with
 | none=>simp [fe]
 | some a =>
   cases n with
   | zero=>simp [fe]
   | succ n=>simp [fe];exact ⟨fun h=>h.symm,fun h=>h.symm⟩
theorem fp_own {v:Value} {k:Nat}:k ∈ fp v↔v.ownBlock=some k:=by
 unfold fp Value.ownBlock
 split <;> simp
 exact ⟨fun h=>h.symm,fun h=>h.symm⟩
/-- append(v, x...): the new row lies where the old one lay, or in the next new block. -/
theorem app_at {P:Program} (w:World) (base:Nat) (t ty e:TypeId) (i:TypeInfo) (z:Value) (size bytes:Nat) (ht:P.underlying t=some (.slice e)) (hi:P.info? e=some i) (hz:i.zero=some z) (hsize:i.size=size) (hby:i.bytes=bytes) (hzs:z.cells.size=size) (hsz:0<size)
  (v:Value) (n:Nat) (xs:List Value) (hown:w.ownsRow base e size v n xs) (B:Nat) (A:Option Addr) (m c:Nat) (news:List Value) (hx:Rd w B A (m * size) news) (h1:ones news)
  (h63:n+m≤maxLen) (hbytes:(n+m) * bytes≤140737488355328) (hbase:base≤w.heap.size) :
  ∃ v' w',(Builtin.append_ #[t,t] ty #[v,.slice A m c]).run P w=.ok v' w'∧w'.ownsRow base e size v' (n+m) (xs ++ news)∧w.grownBy w' v.ownBlock∧∀ k ∈ fp v',k ∈ fp v∨k=w.heap.size:=by
 rcases Nat.eq_zero_or_pos m with h0 | h0
 ·subst h0
  have hn:news=[]:=List.eq_nil_of_length_eq_zero (by rw [hx.1,Nat.zero_mul])
  subst hn
  have hnews:Am.News P ⟨0,fun _=>(0,0),fun _=>0,fun _=>0⟩ w t i.size (.slice A 0 c) 0 [] [] :=
   ⟨.inl ⟨e,ht⟩,fun _=>rfl,by cases A <;> simp [Builtin.firstCells,loadCells,loadCellsFrom],by cases A <;> simp [Builtin.firstCells,loadCells,loadCellsFrom],by simp,fun i v u h _=>by simp at h⟩
  refine ⟨v,w,?_,by simpa using hown,⟨rfl,rfl,rfl,Nat.le_refl _,fun _ _ _=>rfl⟩,fun k hk=>.inl hk⟩
  rcases hown.2 with ⟨rfl,rfl⟩ | ⟨g,cap,cur,rfl,_,_,hnc,_⟩
  ·exact Am.append_nothing ht hi (Nat.le_refl _) hnews rfl ty
  ·exact Am.append_nothing ht hi hnc hnews rfl ty
 ·obtain ⟨b,off,rfl,_,hc⟩:=hx.2 (Nat.mul_pos h0 hsz)
  obtain ⟨v',w',hr,h2,h3,_,h5⟩:=run_append_own_at (P:=P) w base t ty e i z size bytes ht hi hz hsize hby hzs hsz v n xs hown ⟨b,off,none⟩ m c news hx.1 (fun j u hu=>by rw [Addr.add_lit];exact hc j u hu) h1 h63 hbytes hbase
  refine ⟨v',w',hr,h2,h3,fun k hk=>?_⟩
  rw [fp_own] at hk ⊢
  rcases h5 with h5 | h5
  ·exact .inl (h5 ▸ hk)
  ·rw [h5] at hk;exact .inr (by simpa using hk.symm)
theorem wpList_app_at {P:Program} (w:World) {ops:Array Oper} {rest:List Oper} {o:Oper} {a:Act} {Q:Exit→Act→World→Prop} (hgd:o.guard=none) (s x:Operand) (t:TypeId)
  (ho:o.op=.call { callee:=.builtin .append,args:=#[s,x],argTypes:=#[t,t] })
  (base:Nat) (e:TypeId) (i:TypeInfo) (z:Value) (size bytes:Nat) (ht:P.underlying t=some (.slice e)) (hi:P.info? e=some i) (hz:i.zero=some z) (hsize:i.size=size) (hby:i.bytes=bytes) (hzs:z.cells.size=size) (hsz:0<size)
  (v:Value) (n:Nat) (xs:List Value) (hs:a.eval s=v) (hown:w.ownsRow base e size v n xs) (B:Nat) (A:Option Addr) (m c:Nat) (news:List Value) (hxv:a.eval x=.slice A m c) (hx:Rd w B A (m * size) news) (h1:ones news)
  (h63:n+m≤maxLen) (hbytes:(n+m) * bytes≤140737488355328) (hbase:base≤w.heap.size)
  (h:∀ v' w',w'.ownsRow base e size v' (n+m) (xs ++ news)→w.grownBy w' v.ownBlock→(∀ k ∈ fp v',k ∈ fp v∨k=w.heap.size)→wpList P ops Q rest (a.put o.dst v') w'):wpList P ops Q (o :: rest) a w :=
 wpList_plain hgd fun K hK=>by
  obtain ⟨v',w',hr,h2,h3,h4⟩:=app_at (P:=P) w base t o.type e i z size bytes ht hi hz hsize hby hzs hsz v n xs hown B A m c news hx h1 h63 hbytes hbase
  unfold Oper.wp execOp
  simp only [ho,resolve,invoke,builtin,Sem.run_bind,Sem.run_pure,Result.andThen_ok,List.map_toArray,List.map_cons,List.map_nil,hs,hxv,hr]
  exact hK _ _ (h v' w' h2 h3 h4)
theorem step_own_at {P:Program} {ops:Array Oper} {o:Oper} {a:Act} {w:World} {K:Act→World→Prop} {Q:Exit→Act→World→Prop} {E:Prop}
  (hg:o.guard=none) (s x:Operand) (t:TypeId) (hop:o.op=Op.call { callee:=Callee.builtin Builtin.append,args:=#[s,x],argTypes:=#[t,t] })
  (base:Nat) (e:TypeId) (i:TypeInfo) (z:Value) (size bytes:Nat) (ht:P.underlying t=some (.slice e)) (hi:P.info? e=some i) (hz:i.zero=some z) (hsize:i.size=size) (hby:i.bytes=bytes) (hzs:z.cells.size=size) (hsz:0<size)
  (v:Value) (n:Nat) (xs:List Value) (hs:a.eval s=v) (hown:w.ownsRow base e size v n xs) (B:Nat) (A:Option Addr) (m c:Nat) (news:List Value) (hxv:a.eval x=.slice A m c) (hx:Rd w B A (m * size) news) (h1:ones news)
  (h63:n+m≤maxLen) (hbytes:(n+m) * bytes≤140737488355328) (hbase:base≤w.heap.size)
  (h:∀ v' w',w'.ownsRow base e size v' (n+m) (xs ++ news)→w.grownBy w' v.ownBlock→(∀ k ∈ fp v',k ∈ fp v∨k=w.heap.size)→K (a.put o.dst v') w') :
  if Region.wanted o (yielded ops a.tmps)=true then Oper.wp P o a w K Q else E:=by
 have hw:Region.wanted o (yielded ops a.tmps)=true:=by simp [Region.wanted,hg]
 rw [if_pos hw]
 obtain ⟨v',w',hr,h2,h3,h4⟩:=app_at (P:=P) w base t o.type e i z size bytes ht hi hz hsize hby hzs hsz v n xs hown B A m c news hx h1 h63 hbytes hbase
 unfold Oper.wp execOp
 simp only [hop,resolve,invoke,builtin,Sem.run_bind,Sem.run_pure,Result.andThen_ok,List.map_toArray,List.map_cons,List.map_nil,hs,hxv,hr,Oper.upon_value]
 exact h v' w' h2 h3 h4
/-- All blocks but those of F read as they did; nothing else of the world has turned. -/
structure Kept (F:List Nat) (w w':World):Prop where
 os:w'.os=w.os
 tape:w'.tape=w.tape
 output:w'.output=w.output
 size:w.heap.size≤w'.heap.size
 block:∀ k,k<w.heap.size→k ∉ F→w'.heap[k]?=w.heap[k]?
theorem Kept.refl (F:List Nat) (w:World):Kept F w w:=⟨rfl,rfl,rfl,Nat.le_refl _,fun _ _ _=>rfl⟩
theorem Kept.trans {F F':List Nat} {a b c:World} (h:Kept F a b) (k:Kept F' b c) (hs:∀ i ∈ F',i ∈ F∨a.heap.size≤i):Kept F a c :=
 ⟨k.os.trans h.os,k.tape.trans h.tape,k.output.trans h.output,Nat.le_trans h.size k.size,fun i hi hn=>(k.block i (Nat.lt_of_lt_of_le hi h.size) fun hm=>(hs i hm).elim hn (fun hge=>by omega)).trans (h.block i hi hn)⟩
theorem Kept.then {F:List Nat} {a b c:World} (h:Kept F a b) (k:Kept F b c):Kept F a c:=h.trans k fun _ hi=>.inl hi
theorem Kept.ofBelow {w w':World} (F:List Nat) (h:Below w.heap.size w w'):Kept F w w':=⟨h.os,h.tape,h.output,h.size,fun k hk _=>h.block k hk⟩
theorem Kept.ofGrown {F:List Nat} {w w':World} {p:Nat} (h:w.grownBy w' (some p)) (hp:p ∈ F):Kept F w w' :=
 ⟨h.os,h.tape,h.output,h.size,fun k hk hn=>h.block k hk (fun e=>hn (by cases e;exact hp))⟩
theorem Kept.below {F:List Nat} {w w':World} {B:Nat} (h:Kept F w w') (hB:B≤w.heap.size) (hF:∀ k ∈ F,B≤k):Below B w w' :=
 ⟨h.os,h.tape,h.output,h.size,fun k hk=>h.block k (Nat.lt_of_lt_of_le hk hB) fun hm=>by have:=hF k hm;omega⟩
theorem Kept.drewN {F:List Nat} {w w':World} (h:Kept F w w') (q:Nat):Kept F w (w'.drewN q):=⟨h.os,h.tape,h.output,h.size,h.block⟩
theorem Kept.more {F F':List Nat} {w w':World} (h:Kept F w w') (hs:∀ i ∈ F,i ∈ F'):Kept F' w w':=⟨h.os,h.tape,h.output,h.size,fun k hk hn=>h.block k hk fun hm=>hn (hs k hm)⟩
theorem rd_kept {F:List Nat} {w w':World} {A:Option Addr} {n:Nat} {xs:List Value} (h:Rd w w.heap.size A n xs) (hk:Kept F w w') (hf:0<n→∀ a,A=some a→a.block ∉ F):Rd w' w'.heap.size A n xs:=by
 refine ⟨h.1,fun hn=>?_⟩
 obtain ⟨b,off,rfl,hlt,hc⟩:=h.2 hn
 exact ⟨b,off,rfl,Nat.lt_of_lt_of_le hlt hk.size,fun j u hu=>(World.cell?_of_block (a:=⟨b,off+j,none⟩) (hk.block b hlt (hf hn _ rfl))).trans (hc j u hu)⟩
theorem own_kept {F:List Nat} {w w':World} {base e size n:Nat} {v:Value} {xs:List Value} (h:w.ownsRow base e size v n xs) (hk:Kept F w w') (hf:∀ k ∈ fp v,k ∉ F):w'.ownsRow base e size v n xs:=by
 refine ⟨h.1,?_⟩
 rcases h.2 with h | ⟨g,cap,cur,rfl,hb,hg,hr⟩
 ·exact .inl h
 ·exact .inr ⟨g,cap,cur,rfl,hb,(hk.block g (lt_of_block hg) (hf g (by simp [fp]))).trans hg,hr⟩
/-- The stream's cells. -/
def stC (s:St) (v3 v4 v5:Value):Array Value:=#[.int .i64 s.l,.int .i64 s.u,.int .i64 s.id,v3,v4,v5,.bool s.fd,.int .i64 s.fin,.bool s.rs,.int .i64 s.code,.int .i64 s.sure,.int .i64 s.br]
/-- A set's edges, wherever they lie but in block p. -/
def SetV (w:World) (p:Nat) (v:Value) (es:List Int):Prop:=Ok es∧∃ A c,v=.slice A es.length c∧es.length≤c∧okA A es.length c∧Rd w w.heap.size A es.length (ints es)∧away A p
theorem SetV.kept {F:List Nat} {w w':World} {p:Nat} {v:Value} {es:List Int} (h:SetV w p v es) (hk:Kept F w w') (hf:∀ k ∈ fe v,k ∉ F):SetV w' p v es:=by
 obtain ⟨h1,A,c,rfl,h2,h3,h4,h5⟩:=h
 exact ⟨h1,A,c,rfl,h2,h3,rd_kept h4 hk (fun h0 a ea=>hf _ (fe_mem.2 ⟨h0,a,ea,rfl⟩)),h5⟩
theorem SetV.away' {w:World} {p:Nat} {v:Value} {es:List Int} (h:SetV w p v es):p ∉ fe v:=by
 obtain ⟨_,A,c,rfl,_,_,_,h5⟩:=h
 intro hm
 obtain ⟨_,a,rfl,e⟩:=fe_mem.1 hm
 exact h5 a rfl e
theorem SetV.lt {w:World} {p:Nat} {v:Value} {es:List Int} (h:SetV w p v es):∀ k ∈ fe v,k<w.heap.size:=fun k hm=>by
 obtain ⟨_,A,c,rfl,_,_,h4,_⟩:=h
 obtain ⟨h0,a,rfl,rfl⟩:=fe_mem.1 hm
 obtain ⟨b,off,e,hb,_⟩:=h4.2 h0
 cases e;exact hb
structure StIn (w:World) (p:Nat) (F:List Nat) (v3 v4 v5:Value) (s:St):Prop where
 hp:w.heap[p]?=some (.cells (stC s v3 v4 v5) 46 (0,0))
 hF:∀ k ∈ F,k<w.heap.size
 pF:p ∈ F
 row:w.ownsRow 0 5 1 v3 s.bs.length (bv s.bs)
 lost:SetV w p v4 s.lost
 came:SetV w p v5 s.came
 f3:∀ k ∈ fp v3,k ∈ F∧k≠p∧k ∉ fe v4∧k ∉ fe v5
 f4:∀ k ∈ fe v4,k ∈ F
 f5:∀ k ∈ fe v5,k ∈ F
/-- What a call leaves: the stream in such a state; what is new of its footprint is new memory. -/
def StTo (w w':World) (p:Nat) (F:List Nat) (s:St):Prop:=∃ F' v3 v4 v5,StIn w' p F' v3 v4 v5 s∧Kept F w w'∧∀ k ∈ F',k ∈ F∨w.heap.size≤k
section
variable {w w':World} {p:Nat} {F:List Nat} {v3 v4 v5:Value} {s:St}
theorem StIn.kept {G:List Nat} (h:StIn w p F v3 v4 v5 s) (hk:Kept G w w') (hd:∀ k ∈ F,k ∉ G):StIn w' p F v3 v4 v5 s :=
 ⟨(hk.block p (h.hF p h.pF) (hd p h.pF)).trans h.hp,fun k hk'=>Nat.lt_of_lt_of_le (h.hF k hk') hk.size,h.pF,own_kept h.row hk fun k hk'=>hd k (h.f3 k hk').1,h.lost.kept hk fun k hk'=>hd k (h.f4 k hk'),h.came.kept hk fun k hk'=>hd k (h.f5 k hk'),h.f3,h.f4,h.f5⟩
theorem StIn.below (h:StIn w p F v3 v4 v5 s) (hb:Below w.heap.size w w'):StIn w' p F v3 v4 v5 s:=h.kept (Kept.ofBelow [] hb) fun _ _=>by simp
theorem StIn.drewN (h:StIn w p F v3 v4 v5 s) (q:Nat):StIn (w.drewN q) p F v3 v4 v5 s:=h.below ((Below.refl _ _).trans ⟨rfl,rfl,rfl,Nat.le_refl _,fun _ _=>rfl⟩)
theorem StIn.here (h:StIn w p F v3 v4 v5 s) (hb:Below w.heap.size w w'):StTo w w' p F s:=⟨F,v3,v4,v5,h.below hb,Kept.ofBelow F hb,fun _ hk=>.inl hk⟩
theorem StTo.trans {w1:World} {s1 s2:St} {F1:List Nat} (hk:Kept F w w1) (hs:∀ k ∈ F1,k ∈ F∨w.heap.size≤k) (h:StTo w1 w' p F1 s2):StTo w w' p F s2:=by
 obtain ⟨F2,a,b,c,h1,h2,h3⟩:=h
 refine ⟨F2,a,b,c,h1,hk.trans h2 hs,fun k hk'=>?_⟩
 rcases h3 k hk' with h | h
 ·exact hs k h
 ·exact .inr (Nat.le_trans hk.size h)
theorem StIn.cells (h:StIn w p F v3 v4 v5 s):w.cell? ⟨p,0,none⟩=some (.int .i64 s.l)∧w.cell? ⟨p,1,none⟩=some (.int .i64 s.u)∧w.cell? ⟨p,2,none⟩=some (.int .i64 s.id)∧w.cell? ⟨p,3,none⟩=some v3∧w.cell? ⟨p,6,none⟩=some (.bool s.fd)∧w.cell? ⟨p,7,none⟩=some (.int .i64 s.fin)∧w.cell? ⟨p,8,none⟩=some (.bool s.rs)∧w.cell? ⟨p,9,none⟩=some (.int .i64 s.code)∧w.cell? ⟨p,10,none⟩=some (.int .i64 s.sure)∧w.cell? ⟨p,11,none⟩=some (.int .i64 s.br) :=
 ⟨cell_slot h.hp rfl,cell_slot h.hp rfl,cell_slot h.hp rfl,cell_slot h.hp rfl,cell_slot h.hp rfl,cell_slot h.hp rfl,cell_slot h.hp rfl,cell_slot h.hp rfl,cell_slot h.hp rfl,cell_slot h.hp rfl⟩
theorem StIn.free (h:StIn w p F v3 v4 v5 s) (j:Nat):w.frozen? ⟨p,j,none⟩=false:=free_slot h.hp
theorem StIn.setLost (h:StIn w p F v3 v4 v5 s):SetIn w p 4 46 (stC s v3 v4 v5) s.lost:=by
 obtain ⟨h1,A,c,e,h2,h3,h4,h5⟩:=h.lost
 exact ⟨h1,h.hp,A,c,by rw [← e];rfl,h2,h3,h4,h5⟩
theorem StIn.setCame (h:StIn w p F v3 v4 v5 s):SetIn w p 5 46 (stC s v3 v4 v5) s.came:=by
 obtain ⟨h1,A,c,e,h2,h3,h4,h5⟩:=h.came
 exact ⟨h1,h.hp,A,c,by rw [← e];rfl,h2,h3,h4,h5⟩
theorem StIn.cred (h:StIn w p F v3 v4 v5 s):Cr.CredIn w p 0 46 (stC s v3 v4 v5) s.l s.u:=⟨h.hp,rfl,rfl⟩
theorem StIn.form (h:StIn w p F v3 v4 v5 s):∃ A c,v3=.slice A s.bs.length c∧s.bs.length≤c∧okA A s.bs.length c∧Rd w w.heap.size A s.bs.length (bv s.bs):=by
 obtain ⟨A,c,e,h1,_,h2,h3⟩:=own_form h.row
 rw [Nat.mul_one] at h3
 exact ⟨A,c,e,h1,h2,h3⟩
/-- A cell of the stream that is no slice is written. -/
theorem StIn.put (h:StIn w p F v3 v4 v5 s) (s':St) (j:Nat) (u:Value) (he:(stC s v3 v4 v5).setIfInBounds j u=stC s' v3 v4 v5) (hb:s'.bs=s.bs) (hl:s'.lost=s.lost) (hc:s'.came=s.came):StIn (w.setCell ⟨p,j,none⟩ u) p F v3 v4 v5 s':=by
 have hk:Kept [p] w (w.setCell ⟨p,j,none⟩ u):=⟨rfl,rfl,rfl,by simp [World.setCell],fun k _ hn=>Below.heap_setCell _ _ _ _ (by simpa using hn)⟩
 refine ⟨by rw [← he];exact set_slot h.hp j u,fun k hk'=>by simpa [World.setCell] using h.hF k hk',h.pF,?_,?_,?_,h.f3,h.f4,h.f5⟩
 ·rw [hb];exact own_kept h.row hk fun k hk'=>by simpa using (h.f3 k hk').2.1
 ·rw [hl];exact h.lost.kept hk fun k hk' e=>h.lost.away' (by simp at e;exact e ▸ hk')
 ·rw [hc];exact h.came.kept hk fun k hk' e=>h.came.away' (by simp at e;exact e ▸ hk')
theorem StIn.putTo (h:StIn w p F v3 v4 v5 s) (s':St) (j:Nat) (u:Value) (he:(stC s v3 v4 v5).setIfInBounds j u=stC s' v3 v4 v5) (hb:s'.bs=s.bs) (hl:s'.lost=s.lost) (hc:s'.came=s.came):StTo w (w.setCell ⟨p,j,none⟩ u) p F s' :=
 ⟨F,v3,v4,v5,h.put s' j u he hb hl hc,⟨rfl,rfl,rfl,by simp [World.setCell],fun k _ hn=>Below.heap_setCell _ _ _ _ (fun e=>hn (e ▸ h.pF))⟩,fun _ hk=>.inl hk⟩
/-- Limit and top are turned. -/
theorem StIn.toCred (h:StIn w p F v3 v4 v5 s) {l u:Int} (hc:Cr.CredTo w w' p 0 46 (stC s v3 v4 v5) l u):StTo w w' p F ⟨l,u,s.id,s.bs,s.lost,s.came,s.fd,s.fin,s.rs,s.code,s.sure,s.br⟩:=by
 obtain ⟨cur',h1,h2,h3⟩:=hc
 have e:cur'=stC ⟨l,u,s.id,s.bs,s.lost,s.came,s.fd,s.fin,s.rs,s.code,s.sure,s.br⟩ v3 v4 v5:=by
  apply Array.ext_getElem?
  intro i
  match i with
  | 0=>exact h1.c0
  | 1=>exact h1.c1
  | i+2=>exact (h2.2 (i+2) (.inr (by omega))).trans rfl
 have hp':=h1.hp
 rw [e] at hp'
 have hk:Kept [p] w w':=Kept.ofGrown h3 (by simp)
 refine ⟨F,v3,v4,v5,⟨hp',fun k hk'=>Nat.lt_of_lt_of_le (h.hF k hk') h3.size,h.pF,own_kept h.row hk fun k hk'=>by simpa using (h.f3 k hk').2.1,h.lost.kept hk fun k hk' e=>h.lost.away' (by simp at e;exact e ▸ hk'),h.came.kept hk fun k hk' e=>h.came.away' (by simp at e;exact e ▸ hk'),h.f3,h.f4,h.f5⟩,hk.more (fun i hi=>by simp at hi;exact hi ▸ h.pF),fun _ hk=>.inl hk⟩
/-- A set turned: its edges lie where they lay, or in new memory. -/
theorem newV_fe {w:World} {v:Value} (h:NewV w v):∀ k ∈ fe v,w.heap.size≤k:=fun k hk=>by
 cases v with
 | slice A n c =>
   obtain ⟨_,a,rfl,rfl⟩:=fe_mem.1 hk
   exact h _ _ _ rfl a rfl
 | _=>simp [fe] at hk
theorem setV_of {w:World} {p o:Nat} {T:TypeId} {cur:Array Value} {es:List Int} {v:Value} (h:SetIn w p o T cur es) (hv:cur[o]?=some v):SetV w p v es:=by
 obtain ⟨g1,g2,A,c,g3,g4⟩:=h
 rw [hv] at g3
 exact ⟨g1,A,c,by simpa using g3,g4⟩
theorem StIn.toLost (h:StIn w p F v3 v4 v5 s) {es:List Int} {v:Value} (hg:w.grownBy w' (some p)) (hs:SetIn w' p 4 46 ((stC s v3 v4 v5).setIfInBounds 4 v) es) (hn:NewV w v∨v=v4):StTo w w' p F ⟨s.l,s.u,s.id,s.bs,es,s.came,s.fd,s.fin,s.rs,s.code,s.sure,s.br⟩:=by
 have hk:Kept [p] w w':=Kept.ofGrown hg (by simp)
 have hv:=setV_of hs (show _=some v from rfl)
 have hnew:∀ k ∈ fe v,k ∈ fe v4∨w.heap.size≤k:=fun k hk'=>by
  rcases hn with hn | hn
  ·exact .inr (newV_fe hn k hk')
  ·exact .inl (hn ▸ hk')
 refine ⟨F ++ fe v,v3,v,v5,⟨hs.2.1,fun k hk'=>?_,by simp [h.pF],own_kept h.row hk fun k hk'=>by simpa using (h.f3 k hk').2.1,hv,h.came.kept hk fun k hk' e=>h.came.away' (by simp at e;exact e ▸ hk'),fun k hk'=>?_,fun k hk'=>by simp [hk'],fun k hk'=>by simp [h.f5 k hk']⟩,hk.more (fun i hi=>by simp at hi;exact hi ▸ h.pF),fun k hk'=>?_⟩
 ·rw [List.mem_append] at hk'
  rcases hk' with hk' | hk'
  ·exact Nat.lt_of_lt_of_le (h.hF k hk') hg.size
  ·exact hv.lt k hk'
 ·obtain ⟨g1,g2,g3,g4⟩:=h.f3 k hk'
  refine ⟨by simp [g1],g2,fun hm=>?_,g4⟩
  rcases hnew k hm with hm | hm
  ·exact g3 hm
  ·have:=h.hF k g1;omega
 ·rw [List.mem_append] at hk'
  rcases hk' with hk' | hk'
  ·exact .inl hk'
  ·rcases hnew k hk' with hm | hm
   ·exact .inl (h.f4 k hm)
   ·exact .inr hm
theorem StIn.toCame (h:StIn w p F v3 v4 v5 s) {es:List Int} {v:Value} (hg:w.grownBy w' (some p)) (hs:SetIn w' p 5 46 ((stC s v3 v4 v5).setIfInBounds 5 v) es) (hn:NewV w v∨v=v5):StTo w w' p F ⟨s.l,s.u,s.id,s.bs,s.lost,es,s.fd,s.fin,s.rs,s.code,s.sure,s.br⟩:=by
 have hk:Kept [p] w w':=Kept.ofGrown hg (by simp)
 have hv:=setV_of hs (show _=some v from rfl)
 have hnew:∀ k ∈ fe v,k ∈ fe v5∨w.heap.size≤k:=fun k hk'=>by
  rcases hn with hn | hn
  ·exact .inr (newV_fe hn k hk')
  ·exact .inl (hn ▸ hk')
 refine ⟨F ++ fe v,v3,v4,v,⟨hs.2.1,fun k hk'=>?_,by simp [h.pF],own_kept h.row hk fun k hk'=>by simpa using (h.f3 k hk').2.1,h.lost.kept hk fun k hk' e=>h.lost.away' (by simp at e;exact e ▸ hk'),hv,fun k hk'=>?_,fun k hk'=>by simp [h.f4 k hk'],fun k hk'=>by simp [hk']⟩,hk.more (fun i hi=>by simp at hi;exact hi ▸ h.pF),fun k hk'=>?_⟩
 ·rw [List.mem_append] at hk'
  rcases hk' with hk' | hk'
  ·exact Nat.lt_of_lt_of_le (h.hF k hk') hg.size
  ·exact hv.lt k hk'
 ·obtain ⟨g1,g2,g3,g4⟩:=h.f3 k hk'
  refine ⟨by simp [g1],g2,g3,fun hm=>?_⟩
  rcases hnew k hm with hm | hm
  ·exact g4 hm
  ·have:=h.hF k g1;omega
 ·rw [List.mem_append] at hk'
  rcases hk' with hk' | hk'
  ·exact .inl hk'
  ·rcases hnew k hk' with hm | hm
   ·exact .inl (h.f5 k hm)
   ·exact .inr hm
/-- The bytes are appended to: w1 behind append, then the slice is stored. -/
theorem StIn.toBytes {w1:World} {bs':List Nat} {v:Value} (h:StIn w p F v3 v4 v5 s) (hg:w.grownBy w1 v3.ownBlock) (ho:w1.ownsRow 0 5 1 v bs'.length (bv bs')) (hn:∀ k ∈ fp v,k ∈ fp v3∨k=w.heap.size):StTo w (w1.setCell ⟨p,3,none⟩ v) p F ⟨s.l,s.u,s.id,bs',s.lost,s.came,s.fd,s.fin,s.rs,s.code,s.sure,s.br⟩:=by
 have hk0:Kept (fp v3) w w1:=⟨hg.os,hg.tape,hg.output,hg.size,fun k hk hm=>hg.block k hk (fun e=>hm (fp_own.2 e.symm))⟩
 have hp1:=(hk0.block p (h.hF p h.pF) fun hm=>(h.f3 p hm).2.1 rfl).trans h.hp
 have hl1:=h.lost.kept hk0 fun k hk' hm=>(h.f3 k hm).2.2.1 hk'
 have hc1:=h.came.kept hk0 fun k hk' hm=>(h.f3 k hm).2.2.2 hk'
 have hk1:Kept [p] w1 (w1.setCell ⟨p,3,none⟩ v):=⟨rfl,rfl,rfl,by simp [World.setCell],fun k _ hm=>Below.heap_setCell _ _ _ _ (by simpa using hm)⟩
 have hlt:∀ k ∈ fp v,k<w1.heap.size:=fun k hk'=>(ho.lt k (fp_own.1 hk')).2
 have hkp:∀ k ∈ fp v,k≠p:=fun k hk' e=>by
  rcases hn k hk' with hm | hm
  ·exact (h.f3 k hm).2.1 e
  ·have:=h.hF p h.pF;omega
 refine ⟨F ++ fp v,v,v4,v5,⟨set_slot hp1 3 v,fun k hk'=>?_,by simp [h.pF],own_kept ho hk1 fun k hk'=>by simpa using hkp k hk',hl1.kept hk1 fun k hk' e=>h.lost.away' (by simp at e;exact e ▸ hk'),hc1.kept hk1 fun k hk' e=>h.came.away' (by simp at e;exact e ▸ hk'),fun k hk'=>⟨by simp [hk'],hkp k hk',?_,?_⟩,fun k hk'=>by simp [h.f4 k hk'],fun k hk'=>by simp [h.f5 k hk']⟩,(hk0.more (F':=F) fun i hi=>(h.f3 i hi).1).then (hk1.more (F':=F) fun i hi=>by simp at hi;exact hi ▸ h.pF),fun k hk'=>?_⟩
 ·rw [List.mem_append] at hk'
  show k<(w1.setCell _ _).heap.size
  rw [show (w1.setCell ⟨p,3,none⟩ v).heap.size=w1.heap.size by simp [World.setCell]]
  rcases hk' with hk' | hk'
  ·exact Nat.lt_of_lt_of_le (h.hF k hk') hg.size
  ·exact hlt k hk'
 ·intro hm
  rcases hn k hk' with hx | hx
  ·exact (h.f3 k hx).2.2.1 hm
  ·have:=h.hF k (h.f4 k hm);omega
 ·intro hm
  rcases hn k hk' with hx | hx
  ·exact (h.f3 k hx).2.2.2 hm
  ·have:=h.hF k (h.f5 k hm);omega
 ·rw [List.mem_append] at hk'
  rcases hk' with hk' | hk'
  ·exact .inl hk'
  ·rcases hn k hk' with hx | hx
   ·exact .inl (h.f3 k hx).1
   ·exact .inr (by omega)
end
/-- turn tells that its edges are old, or in new memory. -/
theorem turn_new (es:List Int) (p o:Nat) (T:TypeId) (cur:Array Value) (f t:Int) (b:Bool) (w:World) (h:SetIn w p o T cur es) (hm:(es.length+2) * 8≤140737488355328) :
  Calls Try.prog 99 #[.pointer (some ⟨p,o,none⟩),.int .i64 f,.int .i64 t,.bool b] w fun e w'=>e=.returned (.tuple #[])∧(∃ v,SetIn w' p o T (cur.setIfInBounds o v) (turn es f t b)∧(NewV w v∨cur[o]?=some v))∧w.grownBy w' (some p):=by
 unfold turn
 by_cases hft:clamp t≤clamp f
 ·rw [if_pos hft]
  refine (turn_none es p o T cur f t b w h hft).mono ?_
  rintro e w' ⟨rfl,rfl⟩
  obtain ⟨h1,h2,A,c,h3,h4⟩:=h
  exact ⟨rfl,⟨.slice A es.length c,⟨h1,by rw [set_same h3];exact h2,A,c,slot_set h3,h4⟩,.inr h3⟩,below_grown (Below.refl _ _) p⟩
 ·rw [if_neg hft]
  exact (turn_do2 es p o T cur f t b w h hm (by omega)).mono fun _ _ ⟨h1,⟨v,h2,h3⟩,h4⟩=>⟨h1,⟨v,h2,.inl h3⟩,h4⟩
theorem add_new (es:List Int) (p o:Nat) (T:TypeId) (cur:Array Value) (f t:Int) (w:World) (h:SetIn w p o T cur es) (hm:(es.length+2) * 8≤140737488355328) :
  Calls Try.prog 57 #[.pointer (some ⟨p,o,none⟩),.int .i64 f,.int .i64 t] w fun e w'=>e=.returned (.tuple #[])∧(∃ v,SetIn w' p o T (cur.setIfInBounds o v) (turn es f t true)∧(NewV w v∨cur[o]?=some v))∧w.grownBy w' (some p):=by
 have H:=Lib.hid (turn_new es p o T cur f t true w h hm)
 clear h hm
 go_enter Try.func57,Try.ntmps57
 go_wp2_with (go_at_call 99;refine H.out.mono ?_;rintro e w' ⟨rfl,h1,h2⟩)
 have H1:=Lib.hid h1
 have H2:=Lib.hid h2
 clear h1 h2
 go_wp2
 go_end0
 exact ⟨rfl,H1.out,H2.out⟩
theorem drop_new (es:List Int) (p o:Nat) (T:TypeId) (cur:Array Value) (f t:Int) (w:World) (h:SetIn w p o T cur es) (hm:(es.length+2) * 8≤140737488355328) :
  Calls Try.prog 63 #[.pointer (some ⟨p,o,none⟩),.int .i64 f,.int .i64 t] w fun e w'=>e=.returned (.tuple #[])∧(∃ v,SetIn w' p o T (cur.setIfInBounds o v) (turn es f t false)∧(NewV w v∨cur[o]?=some v))∧w.grownBy w' (some p):=by
 have H:=Lib.hid (turn_new es p o T cur f t false w h hm)
 clear h hm
 go_enter Try.func63,Try.ntmps63
 go_wp2_with (go_at_call 99;refine H.out.mono ?_;rintro e w' ⟨rfl,h1,h2⟩)
 have H1:=Lib.hid h1
 have H2:=Lib.hid h2
 clear h1 h2
 go_wp2
 go_end0
 exact ⟨rfl,H1.out,H2.out⟩
section
variable {w w':World} {p:Nat} {F:List Nat} {v3 v4 v5:Value} {s:St}
theorem lost_drop (h:StIn w p F v3 v4 v5 s) (hl:s.lost.length≤1000000) (f t:Int) :
  Calls Try.prog 63 #[.pointer (some ⟨p,4,none⟩),.int .i64 f,.int .i64 t] w fun e w'=>e=.returned (.tuple #[])∧StTo w w' p F ⟨s.l,s.u,s.id,s.bs,turn s.lost f t false,s.came,s.fd,s.fin,s.rs,s.code,s.sure,s.br⟩:=by
 refine (drop_new _ _ _ _ _ f t w h.setLost (by omega)).mono ?_
 rintro e w' ⟨rfl,⟨v,h1,h2⟩,h3⟩
 exact ⟨rfl,h.toLost h3 h1 (h2.imp id fun e=>by have:some v4=some v:=e;simpa using this.symm)⟩
theorem lost_add (h:StIn w p F v3 v4 v5 s) (hl:s.lost.length≤1000000) (f t:Int) :
  Calls Try.prog 57 #[.pointer (some ⟨p,4,none⟩),.int .i64 f,.int .i64 t] w fun e w'=>e=.returned (.tuple #[])∧StTo w w' p F ⟨s.l,s.u,s.id,s.bs,turn s.lost f t true,s.came,s.fd,s.fin,s.rs,s.code,s.sure,s.br⟩:=by
 refine (add_new _ _ _ _ _ f t w h.setLost (by omega)).mono ?_
 rintro e w' ⟨rfl,⟨v,h1,h2⟩,h3⟩
 exact ⟨rfl,h.toLost h3 h1 (h2.imp id fun e=>by have:some v4=some v:=e;simpa using this.symm)⟩
theorem came_add (h:StIn w p F v3 v4 v5 s) (hl:s.came.length≤1000000) (f t:Int) :
  Calls Try.prog 57 #[.pointer (some ⟨p,5,none⟩),.int .i64 f,.int .i64 t] w fun e w'=>e=.returned (.tuple #[])∧StTo w w' p F ⟨s.l,s.u,s.id,s.bs,s.lost,turn s.came f t true,s.fd,s.fin,s.rs,s.code,s.sure,s.br⟩:=by
 refine (add_new _ _ _ _ _ f t w h.setCame (by omega)).mono ?_
 rintro e w' ⟨rfl,⟨v,h1,h2⟩,h3⟩
 exact ⟨rfl,h.toCame h3 h1 (h2.imp id fun e=>by have:some v5=some v:=e;simpa using this.symm)⟩
theorem came_all (h:StIn w p F v3 v4 v5 s) (hl:s.came.length≤1000000) (f t:Int) :
  Calls Try.prog 75 #[.pointer (some ⟨p,5,none⟩),.int .i64 f,.int .i64 t] w fun e w'=>e=.returned (.bool (allF s.came f t))∧∃ q,w'=w.drewN q:=by
 obtain ⟨A,c,h1,_⟩:=h.setCame.at (by omega)
 exact all_any _ _ _ _ A c f t w h1
theorem came_gaps (h:StIn w p F v3 v4 v5 s) (hl:s.came.length≤1000000) (f t:Int) :
  Calls Try.prog 56 #[.pointer (some ⟨p,5,none⟩),.int .i64 f,.int .i64 t] w fun e w'=>∃ v',e=.returned v'∧w'.ownsRow w.heap.size 88 2 v' ((gapsF s.came f t).length / 2) (ints (gapsF s.came f t))∧Below w.heap.size w w' :=
 gaps_any _ _ _ _ _ f t w h.setCame (by omega)
theorem lost_spans (h:StIn w p F v3 v4 v5 s) (hl:s.lost.length≤1000000) :
  Calls Try.prog 100 #[.pointer (some ⟨p,4,none⟩)] w fun e w'=>∃ v',e=.returned v'∧w'.ownsRow w.heap.size 88 2 v' (s.lost.length / 2) (ints s.lost)∧Below w.heap.size w w':=by
 obtain ⟨A,c,h1,h2,_⟩:=h.setLost.at (by omega)
 exact spans_any _ w.heap.size _ _ A c w (cell_slot h.hp h2) h1.2.2.2.2.1 (Nat.le_refl _) h.lost.1.2.1 (by omega) h1.2.2.1
end
end Go.Proofs.Ytoahkffdoaphlaa.Se
