/- Joined texts. Conditions: as each theorem lists them. -/
import Derived.Test.YtoahkffdoaphlaaJZq
import Derived.Test.YtoahkffdoaphlaaJYa
import Derived.Test.YtoahkffdoaphlaaJZi
set_option linter.unusedSimpArgs false
set_option linter.unusedVariables false
set_option maxRecDepth 100000
set_option maxHeartbeats 80000000
namespace Go.Proofs.Ytoahkffdoaphlaa.Re
open Go Go.RowKit Go.Proofs.Ytoahkffdoaphlaa Go.Proofs.Ytoahkffdoaphlaa.Sp Go.Proofs.Ytoahkffdoaphlaa.Sp.Ref Go.Proofs.Ytoahkffdoaphlaa.Se Go.Maps
/-- A byte of a row of the call's own is written. -/
theorem own_put {w:World} {base g n c:Nat} {o:Nat} {bl:List Nat} (h:w.ownsRow base 5 1 (.slice (some ⟨g,o,none⟩) n c) n (bv bl)) (k x:Nat) :
  o=0∧w.frozen? ⟨g,k,none⟩=false∧(w.setCell ⟨g,k,none⟩ (.int .u8 x)).ownsRow base 5 1 (.slice (some ⟨g,0,none⟩) n c) n (bv (bl.set k x)):=by
 obtain ⟨h1,h2⟩:=h
 rcases h2 with ⟨h2,_⟩ | ⟨g',cap,cur,e,hb,hg,hnc,hcm,hs,ht⟩
 ·cases h2
 ·cases e
  refine ⟨rfl,free_slot hg,by simpa [bv] using h1,.inr ⟨g,c,cur.setIfInBounds k (.int .u8 x),rfl,hb,set_slot hg k _,hnc,hcm,by simpa using hs,?_⟩⟩
  rw [Array.toList_setIfInBounds,List.take_set,ht]
  simp [bv,List.map_set]
/-- The reference's stream: its edges, its grant (room, read, told), its bytes, top, end (-1: not known), code, sure, broken, eaten, over. -/
structure Rq where
 es:List Int
 rm:Int
 rd:Int
 tl:Int
 bl:List Nat
 top:Int
 en:Int
 code:Int
 sure:Int
 br:Bool
 tk:Int
 ov:Int
def rqC (r:Rq) (v0 v4:Value):Array Value:=#[v0,.int .i64 r.rm,.int .i64 r.rd,.int .i64 r.tl,v4,.int .i64 r.top,.int .i64 r.en,.int .i64 r.code,.int .i64 r.sure,.bool r.br,.int .i64 r.tk,.int .i64 r.ov]
structure RvIn (w:World) (q:Nat) (G:List Nat) (v0 v4:Value) (r:Rq):Prop where
 hp:w.heap[q]?=some (.cells (rqC r v0 v4) 80 (0,0))
 hG:∀ k ∈ G,k<w.heap.size
 pG:q ∈ G
 set:RefV w q v0 r.es
 row:w.ownsRow 0 5 1 v4 r.bl.length (bv r.bl)
 g0:∀ k ∈ fe v0,k ∈ G
 g4:∀ k ∈ fp v4,k ∈ G
 q4:q ∉ fp v4
 d4:∀ k ∈ fe v0,k ∉ fp v4
/-- What a call leaves. -/
def RvTo (w w':World) (q:Nat) (G:List Nat) (r:Rq):Prop:=∃ G' v0 v4,RvIn w' q G' v0 v4 r∧Kept G w w'∧∀ k ∈ G',k ∈ G∨w.heap.size≤k
section
variable {w w':World} {q:Nat} {F G:List Nat} {v0 v4 v:Value} {r r':Rq}
theorem RvIn.kept (h:RvIn w q G v0 v4 r) (hk:Kept F w w') (hd:∀ k ∈ G,k ∉ F):RvIn w' q G v0 v4 r :=
 ⟨(hk.block q (h.hG q h.pG) (hd q h.pG)).trans h.hp,fun k hk'=>Nat.lt_of_lt_of_le (h.hG k hk') hk.size,h.pG,h.set.kept hk fun k hk'=>hd k (h.g0 k hk'),own_kept h.row hk fun k hk'=>hd k (h.g4 k hk'),h.g0,h.g4,h.q4,h.d4⟩
theorem RvIn.below (h:RvIn w q G v0 v4 r) (hb:Below w.heap.size w w'):RvIn w' q G v0 v4 r:=h.kept (Kept.ofBelow [] hb) fun _ _=>by simp
theorem RvIn.drewN (h:RvIn w q G v0 v4 r) (m:Nat):RvIn (w.drewN m) q G v0 v4 r:=h.below ⟨rfl,rfl,rfl,Nat.le_refl _,fun _ _=>rfl⟩
theorem RvIn.here (h:RvIn w q G v0 v4 r) (hb:Below w.heap.size w w'):RvTo w w' q G r:=⟨G,v0,v4,h.below hb,Kept.ofBelow G hb,fun _ hk=>.inl hk⟩
theorem RvTo.trans {w1:World} {r2:Rq} {G1:List Nat} (hk:Kept G w w1) (hs:∀ k ∈ G1,k ∈ G∨w.heap.size≤k) (h:RvTo w1 w' q G1 r2):RvTo w w' q G r2:=by
 obtain ⟨F2,a,b,h1,h2,h3⟩:=h
 refine ⟨F2,a,b,h1,hk.trans h2 hs,fun k hk'=>?_⟩
 rcases h3 k hk' with h | h
 ·exact hs k h
 ·exact .inr (Nat.le_trans hk.size h)
theorem RvIn.cells (h:RvIn w q G v0 v4 r):w.cell? ⟨q,0,none⟩=some v0∧w.cell? ⟨q,1,none⟩=some (.int .i64 r.rm)∧w.cell? ⟨q,2,none⟩=some (.int .i64 r.rd)∧w.cell? ⟨q,3,none⟩=some (.int .i64 r.tl)∧w.cell? ⟨q,4,none⟩=some v4∧w.cell? ⟨q,5,none⟩=some (.int .i64 r.top)∧w.cell? ⟨q,6,none⟩=some (.int .i64 r.en)∧w.cell? ⟨q,7,none⟩=some (.int .i64 r.code)∧w.cell? ⟨q,8,none⟩=some (.int .i64 r.sure)∧w.cell? ⟨q,9,none⟩=some (.bool r.br)∧w.cell? ⟨q,10,none⟩=some (.int .i64 r.tk)∧w.cell? ⟨q,11,none⟩=some (.int .i64 r.ov) :=
 ⟨cell_slot h.hp rfl,cell_slot h.hp rfl,cell_slot h.hp rfl,cell_slot h.hp rfl,cell_slot h.hp rfl,cell_slot h.hp rfl,cell_slot h.hp rfl,cell_slot h.hp rfl,cell_slot h.hp rfl,cell_slot h.hp rfl,cell_slot h.hp rfl,cell_slot h.hp rfl⟩
theorem RvIn.free (h:RvIn w q G v0 v4 r) (j:Nat):w.frozen? ⟨q,j,none⟩=false:=free_slot h.hp
theorem RvIn.setIn (h:RvIn w q G v0 v4 r):RefIn w q 0 80 (rqC r v0 v4) r.es:=by
 obtain ⟨h1,A,n,c,e,h2,h3,h4,h5⟩:=h.set
 exact ⟨h1,A,n,c,h2,⟨h.hp,by rw [← e];rfl⟩,h3,h4,h5⟩
theorem RvIn.gr (h:RvIn w q G v0 v4 r):Cr.GrIn w q 1 80 (rqC r v0 v4) r.rm r.rd r.tl:=⟨h.hp,rfl,rfl,rfl⟩
/-- A cell that is no slice is written. -/
theorem RvIn.put (h:RvIn w q G v0 v4 r) (r':Rq) (j:Nat) (u:Value) (he:(rqC r v0 v4).setIfInBounds j u=rqC r' v0 v4) (hb:r'.es=r.es) (hl:r'.bl=r.bl):RvIn (w.setCell ⟨q,j,none⟩ u) q G v0 v4 r':=by
 have hk:Kept [q] w (w.setCell ⟨q,j,none⟩ u):=⟨rfl,rfl,rfl,by simp [World.setCell],fun k _ hn=>Below.heap_setCell _ _ _ _ (by simpa using hn)⟩
 refine ⟨by rw [← he];exact set_slot h.hp j u,fun k hk'=>by simpa [World.setCell] using h.hG k hk',h.pG,?_,?_,h.g0,h.g4,h.q4,h.d4⟩
 ·rw [hb];exact h.set.kept hk fun k hk' e=>h.set.away' k hk' (by simpa using e)
 ·rw [hl];exact own_kept h.row hk fun k hk' e=>h.q4 (by simp at e;exact e ▸ hk')
theorem RvIn.kput (h:RvIn w q G v0 v4 r) (j:Nat) (u:Value):Kept G w (w.setCell ⟨q,j,none⟩ u):=kept_put w h.pG j u
theorem RvIn.putTo (h:RvIn w q G v0 v4 r) (r':Rq) (j:Nat) (u:Value) (he:(rqC r v0 v4).setIfInBounds j u=rqC r' v0 v4) (hb:r'.es=r.es) (hl:r'.bl=r.bl):RvTo w (w.setCell ⟨q,j,none⟩ u) q G r' :=
 ⟨G,v0,v4,h.put r' j u he hb hl,h.kput j u,fun _ hk=>.inl hk⟩
/-- The grant is turned. -/
theorem RvIn.toGr (h:RvIn w q G v0 v4 r) {a b c:Int} (hc:Cr.GrTo w w' q 1 80 (rqC r v0 v4) a b c):RvTo w w' q G ⟨r.es,a,b,c,r.bl,r.top,r.en,r.code,r.sure,r.br,r.tk,r.ov⟩:=by
 obtain ⟨cur',h1,h2,h3⟩:=hc
 have e:cur'=rqC ⟨r.es,a,b,c,r.bl,r.top,r.en,r.code,r.sure,r.br,r.tk,r.ov⟩ v0 v4:=by
  apply Array.ext_getElem?
  intro i
  match i with
  | 0=>exact (h2.2 0 (.inl (by omega))).trans rfl
  | 1=>exact h1.c0
  | 2=>exact h1.c1
  | 3=>exact h1.c2
  | i+4=>exact (h2.2 (i+4) (.inr (by omega))).trans rfl
 have hp':=h1.hp
 rw [e] at hp'
 have hk:Kept [q] w w':=Kept.ofGrown h3 (by simp)
 exact ⟨G,v0,v4,⟨hp',fun k hk'=>Nat.lt_of_lt_of_le (h.hG k hk') h3.size,h.pG,h.set.kept hk fun k hk' e=>h.set.away' k hk' (by simpa using e),own_kept h.row hk fun k hk' e=>h.q4 (by simp at e;exact e ▸ hk'),h.g0,h.g4,h.q4,h.d4⟩,hk.more (fun i hi=>by simp at hi;exact hi ▸ h.pG),fun _ hk=>.inl hk⟩
/-- The set is turned. -/
theorem RvIn.toSet (h:RvIn w q G v0 v4 r) {es:List Int} (hg:w.grownBy w' (some q)) (hs:RefIn w' q 0 80 ((rqC r v0 v4).setIfInBounds 0 v) es) (hn:NewV w v∨(rqC r v0 v4)[0]?=some v):RvTo w w' q G ⟨es,r.rm,r.rd,r.tl,r.bl,r.top,r.en,r.code,r.sure,r.br,r.tk,r.ov⟩:=by
 have hk:Kept [q] w w':=Kept.ofGrown hg (by simp)
 have hv:=refV_of hs (show _=some v from rfl)
 obtain ⟨_,_,_,_,_,⟨hp',_⟩,_⟩:=hs
 have hnew:∀ k ∈ fe v,k ∈ fe v0∨w.heap.size≤k:=fun k hk'=>by
  rcases hn with hn | hn
  ·exact .inr (newV_fe hn k hk')
  ·have:v0=v:=Option.some.inj hn
   exact .inl (this ▸ hk')
 refine ⟨G ++ fe v,v,v4,⟨hp',fun k hk'=>?_,by simp [h.pG],hv,own_kept h.row hk fun k hk' e=>h.q4 (by simp at e;exact e ▸ hk'),fun k hk'=>by simp [hk'],fun k hk'=>by simp [h.g4 k hk'],h.q4,fun k hk' hm=>?_⟩,hk.more (fun i hi=>by simp at hi;exact hi ▸ h.pG),fun k hk'=>?_⟩
 ·rw [List.mem_append] at hk'
  rcases hk' with hk' | hk'
  ·exact Nat.lt_of_lt_of_le (h.hG k hk') hg.size
  ·exact hv.lt k hk'
 ·rcases hnew k hk' with hx | hx
  ·exact h.d4 k hx hm
  ·have:=h.hG k (h.g4 k hm);omega
 ·rw [List.mem_append] at hk'
  rcases hk' with hk' | hk'
  ·exact .inl hk'
  ·exact (hnew k hk').imp (h.g0 k) id
/-- The row of bytes has grown, and the field leads to it. -/
theorem RvIn.toRow (h:RvIn w q G v0 v4 r) {bl:List Nat} (hg:w.grownBy w' v4.ownBlock) (ho:w'.ownsRow 0 5 1 v bl.length (bv bl)) (hn:∀ k ∈ fp v,k ∈ fp v4∨k=w.heap.size):RvTo w (w'.setCell ⟨q,4,none⟩ v) q G ⟨r.es,r.rm,r.rd,r.tl,bl,r.top,r.en,r.code,r.sure,r.br,r.tk,r.ov⟩:=by
 have hk:Kept (fp v4) w w':=⟨hg.os,hg.tape,hg.output,hg.size,fun k hk hm=>hg.block k hk fun e=>hm (fp_own.2 e.symm)⟩
 have hq':=(hk.block q (h.hG q h.pG) h.q4).trans h.hp
 have hs':=h.set.kept hk fun k hk'=>h.d4 k hk'
 have hqv:q ∉ fp v:=fun hm=>by
  rcases hn q hm with hx | hx
  ·exact h.q4 hx
  ·have:=h.hG q h.pG;omega
 have hk2:Kept [q] w' (w'.setCell ⟨q,4,none⟩ v):=⟨rfl,rfl,rfl,by simp [World.setCell],fun k _ hn=>Below.heap_setCell _ _ _ _ (by simpa using hn)⟩
 refine ⟨G ++ fp v,v0,v,⟨set_slot hq' 4 v,fun k hk'=>?_,by simp [h.pG],hs'.kept hk2 fun k hk' e=>hs'.away' k hk' (by simpa using e),own_kept ho hk2 fun k hk' e=>hqv (by simp at e;exact e ▸ hk'),fun k hk'=>by simp [h.g0 k hk'],fun k hk'=>by simp [hk'],hqv,fun k hk' hm=>?_⟩,(hk.more h.g4).then (kept_put w' h.pG 4 v),fun k hk'=>?_⟩
 ·rw [List.mem_append] at hk'
  simp only [World.setCell,Array.size_modify]
  rcases hk' with hk' | hk'
  ·exact Nat.lt_of_lt_of_le (h.hG k hk') hg.size
  ·exact (ho.lt k (fp_own.1 hk')).2
 ·rcases hn k hm with hx | hx
  ·exact h.d4 k hk' hx
  ·have:=h.hG k (h.g0 k hk');omega
 ·rw [List.mem_append] at hk'
  rcases hk' with hk' | hk'
  ·exact .inl hk'
  ·rcases hn k hk' with hx | hx
   ·exact .inl (h.g4 k hx)
   ·exact .inr (by omega)
/-- A byte of the row is written. -/
theorem RvIn.setB (h:RvIn w q G v0 v4 r) {g o n c:Nat} (hv:v4=.slice (some ⟨g,o,none⟩) n c) (k x:Nat):o=0∧w.frozen? ⟨g,k,none⟩=false∧RvTo w (w.setCell ⟨g,k,none⟩ (.int .u8 x)) q G ⟨r.es,r.rm,r.rd,r.tl,r.bl.set k x,r.top,r.en,r.code,r.sure,r.br,r.tk,r.ov⟩:=by
 subst hv
 obtain ⟨A',c',e',_⟩:=own_form h.row
 simp only [Value.slice.injEq] at e'
 obtain ⟨_,rfl,_⟩:=e'
 obtain ⟨h1,h2,h3⟩:=own_put h.row k x
 subst h1
 have hgm:g ∈ fp (.slice (some ⟨g,0,none⟩) r.bl.length c):=by simp [fp]
 have hk:Kept [g] w (w.setCell ⟨g,k,none⟩ (.int .u8 x)):=⟨rfl,rfl,rfl,by simp [World.setCell],fun k _ hn=>Below.heap_setCell _ _ _ _ (by simpa using hn)⟩
 have hqg:q≠g:=fun e=>h.q4 (e ▸ hgm)
 refine ⟨rfl,h2,G,v0,_,⟨(hk.block q (h.hG q h.pG) (by simpa using hqg)).trans h.hp,fun k hk'=>by simpa [World.setCell] using h.hG k hk',h.pG,h.set.kept hk fun k hk' e=>h.d4 k hk' (by simp at e;exact e ▸ hgm),by rw [List.length_set];exact h3,h.g0,h.g4,h.q4,h.d4⟩,hk.more (fun i hi=>by simp at hi;exact hi ▸ h.g4 g hgm),fun _ hk=>.inl hk⟩
end
end Go.Proofs.Ytoahkffdoaphlaa.Re
