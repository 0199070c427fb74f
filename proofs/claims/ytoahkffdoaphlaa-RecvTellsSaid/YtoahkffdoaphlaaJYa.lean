/- Joined texts. Conditions: as each theorem lists them. -/
import Derived.Test.YtoahkffdoaphlaaJWc
import Derived.Test.YtoahkffdoaphlaaJXt
import Derived.Test.YtoahkffdoaphlaaJKc
set_option linter.unusedSimpArgs false
set_option linter.unusedVariables false
set_option maxRecDepth 100000
set_option maxHeartbeats 80000000
namespace Go.Proofs.Ytoahkffdoaphlaa.Se
open Go Go.RowKit Go.Proofs.Ytoahkffdoaphlaa Go.Proofs.Ytoahkffdoaphlaa.Sp Go.Proofs.Ytoahkffdoaphlaa.Sp.Ref
def ftN (n:Int):Bool:=decide (n=1∨n=3)
def fcN (n:Int):Bool:=decide (n=3)
def fsN (n:Int):Bool:=decide (n≠0)
/-- The cells of the reference's stream. -/
def rC (s:St) (v1 v8 v9:Value):Array Value:=#[.int .i64 s.id,v1,.int .i64 s.l,.int .i64 s.u,.bool s.fd,.bool s.rs,.int .i64 s.code,.int .i64 s.sure,v8,v9,.bool (ftN s.fin),.bool (fcN s.fin),.bool (fsN s.fin),.bool (ftN s.br),.bool (fcN s.br),.bool (fsN s.br)]
def DatV (w:World) (p:Nat) (v:Value) (bs:List Nat):Prop:=∃ A c,v=.slice A bs.length c∧bs.length≤c∧Rd w w.heap.size A bs.length (bv bs)∧∀ k ∈ fe v,k≠p
def RefV (w:World) (p:Nat) (v:Value) (es:List Int):Prop:=Ok es∧∃ A n c,v=.slice A n c∧es.length=n * 2∧n≤c∧Rd w w.heap.size A (n * 2) (ints es)∧away A p
section
variable {w w':World} {p:Nat} {F G:List Nat} {v v1 v8 v9 u1 u8 u9:Value} {s s':St} {es:List Int} {bs:List Nat}
theorem DatV.kept (h:DatV w p v bs) (hk:Kept F w w') (hf:∀ k ∈ fe v,k ∉ F):DatV w' p v bs:=by
 obtain ⟨A,c,rfl,h2,h3,h4⟩:=h
 exact ⟨A,c,rfl,h2,rd_kept h3 hk (fun h0 a ea=>hf _ (fe_mem.2 ⟨h0,a,ea,rfl⟩)),h4⟩
theorem RefV.kept (h:RefV w p v es) (hk:Kept F w w') (hf:∀ k ∈ fe v,k ∉ F):RefV w' p v es:=by
 obtain ⟨h1,A,n,c,rfl,h2,h3,h4,h5⟩:=h
 exact ⟨h1,A,n,c,rfl,h2,h3,rd_kept h4 hk (fun h0 a ea=>hf _ (fe_mem.2 ⟨by omega,a,ea,rfl⟩)),h5⟩
theorem RefV.away' (h:RefV w p v es):∀ k ∈ fe v,k≠p:=by
 obtain ⟨_,A,n,c,rfl,_,_,_,h5⟩:=h
 intro k hm e
 obtain ⟨_,a,rfl,rfl⟩:=fe_mem.1 hm
 exact h5 a rfl e
theorem rd_lt {A:Option Addr} {n m c:Nat} {xs:List Value} (h:Rd w w.heap.size A m xs) (hm:0<n→0<m):∀ k ∈ fe (.slice A n c),k<w.heap.size:=fun k hk=>by
 obtain ⟨h0,a,rfl,rfl⟩:=fe_mem.1 hk
 obtain ⟨b,off,e,hb,_⟩:=h.2 (hm h0)
 cases e;exact hb
theorem DatV.lt (h:DatV w p v bs):∀ k ∈ fe v,k<w.heap.size:=by
 obtain ⟨A,c,rfl,_,h3,_⟩:=h
 exact rd_lt h3 id
theorem RefV.lt (h:RefV w p v es):∀ k ∈ fe v,k<w.heap.size:=by
 obtain ⟨_,A,n,c,rfl,_,_,h4,_⟩:=h
 exact rd_lt h4 (by omega)
structure RIn (w:World) (p:Nat) (G:List Nat) (v1 v8 v9:Value) (s:St):Prop where
 hp:w.heap[p]?=some (.cells (rC s v1 v8 v9) 52 (0,0))
 hG:∀ k ∈ G,k<w.heap.size
 pG:p ∈ G
 data:DatV w p v1 s.bs
 came:RefV w p v8 s.came
 lost:RefV w p v9 s.lost
 g1:∀ k ∈ fe v1,k ∈ G
 g8:∀ k ∈ fe v8,k ∈ G
 g9:∀ k ∈ fe v9,k ∈ G
/-- What a call leaves: the stream's own block alone has turned; what is new of the blocks is new memory. -/
def RTo (w w':World) (p:Nat) (G:List Nat) (s:St):Prop:=∃ G' v1 v8 v9,RIn w' p G' v1 v8 v9 s∧Kept [p] w w'∧∀ k ∈ G',k ∈ G∨w.heap.size≤k
theorem RIn.kept (h:RIn w p G v1 v8 v9 s) (hk:Kept F w w') (hd:∀ k ∈ G,k ∉ F):RIn w' p G v1 v8 v9 s :=
 ⟨(hk.block p (h.hG p h.pG) (hd p h.pG)).trans h.hp,fun k hk'=>Nat.lt_of_lt_of_le (h.hG k hk') hk.size,h.pG,h.data.kept hk fun k hk'=>hd k (h.g1 k hk'),h.came.kept hk fun k hk'=>hd k (h.g8 k hk'),h.lost.kept hk fun k hk'=>hd k (h.g9 k hk'),h.g1,h.g8,h.g9⟩
theorem RIn.below (h:RIn w p G v1 v8 v9 s) (hb:Below w.heap.size w w'):RIn w' p G v1 v8 v9 s:=h.kept (Kept.ofBelow [] hb) fun _ _=>by simp
theorem RIn.drewN (h:RIn w p G v1 v8 v9 s) (q:Nat):RIn (w.drewN q) p G v1 v8 v9 s:=h.below ((Below.refl _ _).trans ⟨rfl,rfl,rfl,Nat.le_refl _,fun _ _=>rfl⟩)
theorem RIn.here (h:RIn w p G v1 v8 v9 s) (hb:Below w.heap.size w w'):RTo w w' p G s:=⟨G,v1,v8,v9,h.below hb,Kept.ofBelow _ hb,fun _ hk=>.inl hk⟩
theorem RTo.trans {w1:World} {G1:List Nat} {s2:St} (hk:Kept [p] w w1) (hs:∀ k ∈ G1,k ∈ G∨w.heap.size≤k) (h:RTo w1 w' p G1 s2):RTo w w' p G s2:=by
 obtain ⟨F2,a,b,c,h1,h2,h3⟩:=h
 refine ⟨F2,a,b,c,h1,hk.then h2,fun k hk'=>?_⟩
 rcases h3 k hk' with h | h
 ·exact hs k h
 ·exact .inr (Nat.le_trans hk.size h)
theorem RIn.cells (h:RIn w p G v1 v8 v9 s):w.cell? ⟨p,0,none⟩=some (.int .i64 s.id)∧w.cell? ⟨p,1,none⟩=some v1∧w.cell? ⟨p,2,none⟩=some (.int .i64 s.l)∧w.cell? ⟨p,3,none⟩=some (.int .i64 s.u)∧w.cell? ⟨p,4,none⟩=some (.bool s.fd)∧w.cell? ⟨p,5,none⟩=some (.bool s.rs)∧w.cell? ⟨p,6,none⟩=some (.int .i64 s.code)∧w.cell? ⟨p,7,none⟩=some (.int .i64 s.sure)∧w.cell? ⟨p,8,none⟩=some v8∧w.cell? ⟨p,9,none⟩=some v9∧w.cell? ⟨p,10,none⟩=some (.bool (ftN s.fin))∧w.cell? ⟨p,11,none⟩=some (.bool (fcN s.fin))∧w.cell? ⟨p,12,none⟩=some (.bool (fsN s.fin))∧w.cell? ⟨p,13,none⟩=some (.bool (ftN s.br))∧w.cell? ⟨p,14,none⟩=some (.bool (fcN s.br))∧w.cell? ⟨p,15,none⟩=some (.bool (fsN s.br)) :=
 ⟨cell_slot h.hp rfl,cell_slot h.hp rfl,cell_slot h.hp rfl,cell_slot h.hp rfl,cell_slot h.hp rfl,cell_slot h.hp rfl,cell_slot h.hp rfl,cell_slot h.hp rfl,cell_slot h.hp rfl,cell_slot h.hp rfl,cell_slot h.hp rfl,cell_slot h.hp rfl,cell_slot h.hp rfl,cell_slot h.hp rfl,cell_slot h.hp rfl,cell_slot h.hp rfl⟩
theorem RIn.free (h:RIn w p G v1 v8 v9 s) (j:Nat):w.frozen? ⟨p,j,none⟩=false:=free_slot h.hp
theorem RIn.setCame (h:RIn w p G v1 v8 v9 s):RefIn w p 8 52 (rC s v1 v8 v9) s.came:=by
 obtain ⟨h1,A,n,c,e,h2,h3,h4,h5⟩:=h.came
 exact ⟨h1,A,n,c,h2,⟨h.hp,by rw [← e];rfl⟩,h3,h4,h5⟩
theorem RIn.setLost (h:RIn w p G v1 v8 v9 s):RefIn w p 9 52 (rC s v1 v8 v9) s.lost:=by
 obtain ⟨h1,A,n,c,e,h2,h3,h4,h5⟩:=h.lost
 exact ⟨h1,A,n,c,h2,⟨h.hp,by rw [← e];rfl⟩,h3,h4,h5⟩
theorem RIn.cred (h:RIn w p G v1 v8 v9 s):Cr.CredIn w p 2 52 (rC s v1 v8 v9) s.l s.u:=⟨h.hp,rfl,rfl⟩
/-- The block of the stream alone has turned; its rows lie where they lay, or in new memory. -/
theorem RIn.step (h:RIn w p G v1 v8 v9 s) (hk:Kept [p] w w') (hp:w'.heap[p]?=some (.cells (rC s' u1 u8 u9) 52 (0,0))) (h1:DatV w' p u1 s'.bs) (h8:RefV w' p u8 s'.came) (h9:RefV w' p u9 s'.lost)
  (n1:∀ k ∈ fe u1,k ∈ fe v1∨w.heap.size≤k) (n8:∀ k ∈ fe u8,k ∈ fe v8∨w.heap.size≤k) (n9:∀ k ∈ fe u9,k ∈ fe v9∨w.heap.size≤k):RTo w w' p G s':=by
 refine ⟨G ++ (fe u1 ++ (fe u8 ++ fe u9)),u1,u8,u9,⟨hp,fun k hk'=>?_,by simp [h.pG],h1,h8,h9,fun k hk'=>by simp [hk'],fun k hk'=>by simp [hk'],fun k hk'=>by simp [hk']⟩,hk,fun k hk'=>?_⟩
 ·simp only [List.mem_append] at hk'
  rcases hk' with hk' | hk' | hk' | hk'
  ·exact Nat.lt_of_lt_of_le (h.hG k hk') hk.size
  ·exact h1.lt k hk'
  ·exact h8.lt k hk'
  ·exact h9.lt k hk'
 ·simp only [List.mem_append] at hk'
  rcases hk' with hk' | hk' | hk' | hk'
  ·exact .inl hk'
  ·exact (n1 k hk').imp (h.g1 k) id
  ·exact (n8 k hk').imp (h.g8 k) id
  ·exact (n9 k hk').imp (h.g9 k) id
theorem RIn.data' (h:RIn w p G v1 v8 v9 s) (hk:Kept [p] w w'):DatV w' p v1 s.bs:=h.data.kept hk fun k hk'=>by
 obtain ⟨A,c,rfl,_,_,h4⟩:=h.data
 simpa using h4 k hk'
theorem RIn.came' (h:RIn w p G v1 v8 v9 s) (hk:Kept [p] w w'):RefV w' p v8 s.came:=h.came.kept hk fun k hk'=>by simpa using h.came.away' k hk'
theorem RIn.lost' (h:RIn w p G v1 v8 v9 s) (hk:Kept [p] w w'):RefV w' p v9 s.lost:=h.lost.kept hk fun k hk'=>by simpa using h.lost.away' k hk'
theorem kept_set (w:World) (p j:Nat) (u:Value):Kept [p] w (w.setCell ⟨p,j,none⟩ u):=⟨rfl,rfl,rfl,by simp [World.setCell],fun k _ hn=>Below.heap_setCell _ _ _ _ (by simpa using hn)⟩
/-- A cell that is no slice is written. -/
theorem RIn.put (h:RIn w p G v1 v8 v9 s) (s':St) (j:Nat) (u:Value) (he:(rC s v1 v8 v9).setIfInBounds j u=rC s' v1 v8 v9) (hb:s'.bs=s.bs) (hl:s'.lost=s.lost) (hc:s'.came=s.came):RIn (w.setCell ⟨p,j,none⟩ u) p G v1 v8 v9 s' :=
 ⟨by rw [← he];exact set_slot h.hp j u,fun k hk'=>by simpa [World.setCell] using h.hG k hk',h.pG,by rw [hb];exact h.data' (kept_set w p j u),by rw [hc];exact h.came' (kept_set w p j u),by rw [hl];exact h.lost' (kept_set w p j u),h.g1,h.g8,h.g9⟩
theorem RIn.to {w0:World} (h:RIn w p G v1 v8 v9 s) (hk:Kept [p] w0 w):RTo w0 w p G s:=⟨G,v1,v8,v9,h,hk,fun _ hk=>.inl hk⟩
theorem RIn.toCred (h:RIn w p G v1 v8 v9 s) {l u:Int} (hc:Cr.CredTo w w' p 2 52 (rC s v1 v8 v9) l u):RTo w w' p G ⟨l,u,s.id,s.bs,s.lost,s.came,s.fd,s.fin,s.rs,s.code,s.sure,s.br⟩:=by
 obtain ⟨cur',h1,h2,h3⟩:=hc
 have e:cur'=rC ⟨l,u,s.id,s.bs,s.lost,s.came,s.fd,s.fin,s.rs,s.code,s.sure,s.br⟩ v1 v8 v9:=by
  apply Array.ext_getElem?
  intro i
  match i with
  | 0=>exact (h2.2 0 (.inl (by omega))).trans rfl
  | 1=>exact (h2.2 1 (.inl (by omega))).trans rfl
  | 2=>exact h1.c0
  | 3=>exact h1.c1
  | i+4=>exact (h2.2 (i+4) (.inr (by omega))).trans rfl
 have hp':=h1.hp
 rw [e] at hp'
 have hk:Kept [p] w w':=Kept.ofGrown h3 (by simp)
 exact h.step hk hp' (h.data' hk) (h.came' hk) (h.lost' hk) (fun _ h=>.inl h) (fun _ h=>.inl h) (fun _ h=>.inl h)
theorem refV_of {o:Nat} {T:TypeId} {cur:Array Value} (h:RefIn w p o T cur es) (hv:cur[o]?=some v):RefV w p v es:=by
 obtain ⟨h1,A,n,c,h2,⟨h3,h4⟩,h5,h6,h7⟩:=h
 rw [hv] at h4
 exact ⟨h1,A,n,c,by simpa using h4,h2,h5,h6,h7⟩
theorem RIn.toCame (h:RIn w p G v1 v8 v9 s) (hg:w.grownBy w' (some p)) (hs:RefIn w' p 8 52 ((rC s v1 v8 v9).setIfInBounds 8 v) es) (hn:NewV w v∨(rC s v1 v8 v9)[8]?=some v):RTo w w' p G ⟨s.l,s.u,s.id,s.bs,s.lost,es,s.fd,s.fin,s.rs,s.code,s.sure,s.br⟩:=by
 have hk:Kept [p] w w':=Kept.ofGrown hg (by simp)
 have hv:=refV_of hs (show _=some v from rfl)
 obtain ⟨_,_,_,_,_,⟨hp',_⟩,_⟩:=hs
 refine h.step hk hp' (h.data' hk) hv (h.lost' hk) (fun _ h=>.inl h) (fun k hk'=>?_) (fun _ h=>.inl h)
 rcases hn with hn | hn
 ·exact .inr (newV_fe hn k hk')
 ·have:v8=v:=Option.some.inj hn
  exact .inl (this ▸ hk')
theorem RIn.toLost (h:RIn w p G v1 v8 v9 s) (hg:w.grownBy w' (some p)) (hs:RefIn w' p 9 52 ((rC s v1 v8 v9).setIfInBounds 9 v) es) (hn:NewV w v∨(rC s v1 v8 v9)[9]?=some v):RTo w w' p G ⟨s.l,s.u,s.id,s.bs,es,s.came,s.fd,s.fin,s.rs,s.code,s.sure,s.br⟩:=by
 have hk:Kept [p] w w':=Kept.ofGrown hg (by simp)
 have hv:=refV_of hs (show _=some v from rfl)
 obtain ⟨_,_,_,_,_,⟨hp',_⟩,_⟩:=hs
 refine h.step hk hp' (h.data' hk) (h.came' hk) hv (fun _ h=>.inl h) (fun _ h=>.inl h) (fun k hk'=>?_)
 rcases hn with hn | hn
 ·exact .inr (newV_fe hn k hk')
 ·have:v9=v:=Option.some.inj hn
  exact .inl (this ▸ hk')
/-- Add, Drop, Gaps, All of the two sets. -/
theorem rcame_add (h:RIn w p G v1 v8 v9 s) (hl:s.came.length≤1000000) (f t:Int) :
  Calls Try.prog 61 #[.pointer (some ⟨p,8,none⟩),.int .i64 f,.int .i64 t] w fun e w'=>e=.returned (.tuple #[])∧RTo w w' p G ⟨s.l,s.u,s.id,s.bs,s.lost,turn s.came f t true,s.fd,s.fin,s.rs,s.code,s.sure,s.br⟩ :=
 (radd_new _ p 8 _ _ f t w h.setCame (by omega)).mono fun e w' ⟨h1,⟨v,h2,h3⟩,h4⟩=>⟨h1,h.toCame h4 h2 h3⟩
theorem rlost_add (h:RIn w p G v1 v8 v9 s) (hl:s.lost.length≤1000000) (f t:Int) :
  Calls Try.prog 61 #[.pointer (some ⟨p,9,none⟩),.int .i64 f,.int .i64 t] w fun e w'=>e=.returned (.tuple #[])∧RTo w w' p G ⟨s.l,s.u,s.id,s.bs,turn s.lost f t true,s.came,s.fd,s.fin,s.rs,s.code,s.sure,s.br⟩ :=
 (radd_new _ p 9 _ _ f t w h.setLost (by omega)).mono fun e w' ⟨h1,⟨v,h2,h3⟩,h4⟩=>⟨h1,h.toLost h4 h2 h3⟩
theorem rlost_drop (h:RIn w p G v1 v8 v9 s) (hl:s.lost.length≤1000000) (f t:Int) :
  Calls Try.prog 65 #[.pointer (some ⟨p,9,none⟩),.int .i64 f,.int .i64 t] w fun e w'=>e=.returned (.tuple #[])∧RTo w w' p G ⟨s.l,s.u,s.id,s.bs,turn s.lost f t false,s.came,s.fd,s.fin,s.rs,s.code,s.sure,s.br⟩ :=
 (rdrop_new _ p 9 _ _ f t w h.setLost (by omega)).mono fun e w' ⟨h1,⟨v,h2,h3⟩,h4⟩=>⟨h1,h.toLost h4 h2 h3⟩
theorem rcame_all (h:RIn w p G v1 v8 v9 s) (hl:s.came.length≤1000000) (f t:Int) :
  Calls Try.prog 76 #[.pointer (some ⟨p,8,none⟩),.int .i64 f,.int .i64 t] w fun e w'=>e=.returned (.bool (allF s.came f t))∧Below w.heap.size w w':=rall_any _ p 8 _ _ f t w h.setCame (by omega)
theorem rcame_gaps (h:RIn w p G v1 v8 v9 s) (hl:s.came.length≤1000000) (f t:Int) :
  Calls Try.prog 60 #[.pointer (some ⟨p,8,none⟩),.int .i64 f,.int .i64 t] w fun e w'=>∃ A n c,e=.returned (.slice A n c)∧(gapsF s.came f t).length=n * 2∧n≤c∧Rd w' w'.heap.size A (n * 2) (ints (gapsF s.came f t))∧Below w.heap.size w w':=rgaps_any _ p 8 _ _ f t w h.setCame (by omega)
/-- NewSend. -/
theorem rnew_st (w:World) (id:Int) :
  Calls Try.prog 7 #[.int .i64 id] w fun e w'=>∃ p G v1 v8 v9,e=.returned (.pointer (some ⟨p,0,none⟩))∧RIn w' p G v1 v8 v9 (newS id)∧(∀ k ∈ G,w.heap.size≤k)∧Below w.heap.size w w':=by
 go_enter Try.func7,Try.ntmps7
 go_wp2
 go_ret
 refine ⟨w.heap.size,[w.heap.size],.slice none 0 0,.slice none 0 0,.slice none 0 0,rfl,⟨heap_alloc_new w _,?_,by simp,⟨none,0,rfl,Nat.le_refl _,Rd.nil _ _ _,fun k hk=>by simp [fe] at hk⟩,⟨ok_nil,none,0,0,rfl,rfl,Nat.le_refl _,Rd.nil _ _ _,fun a ha=>by cases ha⟩,⟨ok_nil,none,0,0,rfl,rfl,Nat.le_refl _,Rd.nil _ _ _,fun a ha=>by cases ha⟩,fun k hk=>by simp [fe] at hk,fun k hk=>by simp [fe] at hk,fun k hk=>by simp [fe] at hk⟩,fun k hk=>by simp at hk;omega,(Below.refl _ _).alloc (Nat.le_refl _) _⟩
 intro k hk
 simp at hk
 subst hk
 simp
theorem rmay_st (h:RIn w p G v1 v8 v9 s) :
  Calls Try.prog 70 #[.pointer (some ⟨p,0,none⟩)] w fun e w'=>e=.returned (.int .i64 (endS s))∧w'=w:=by
 obtain ⟨hc0,hc1,hc2,hc3,hc4,hc5,hc6,hc7,_⟩:=h.cells
 obtain ⟨A,c,rfl,_⟩:=h.data
 clear h
 obtain ⟨r,hr⟩:∃ r,s.rs=r:=⟨_,rfl⟩
 have HE:Hid (endS s=if r=true then s.sure else (s.bs.length:Int)):=by unfold endS;rw [hr];rfl
 rw [hr] at hc5
 obtain ⟨en,hen⟩:∃ e,endS s=e:=⟨_,rfl⟩
 rw [hen] at HE ⊢
 cases r
 ·obtain rfl:en=(s.bs.length:Int):=HE.out
  go_enter Try.func70,Try.ntmps70
  go_wp2_with fail
  go_ret
  exact ⟨rfl,rfl⟩
 ·obtain rfl:en=s.sure:=HE.out
  go_enter Try.func70,Try.ntmps70
  go_wp2_with fail
  go_ret
  exact ⟨rfl,rfl⟩
theorem rfinish_st (h:RIn w p G v1 v8 v9 s) :
  Calls Try.prog 13 #[.pointer (some ⟨p,0,none⟩)] w fun e w'=>e=.returned (.int .i64 (finishS s).1)∧RTo w w' p G (finishS s).2:=by
 obtain ⟨_,_,_,_,hc4,hc5,_⟩:=h.cells
 have hf:=h.free 4
 have HN:Hid (∀ W,W=w→RTo w (W.setCell ⟨p,4,none⟩ (.bool true)) p G ⟨s.l,s.u,s.id,s.bs,s.lost,s.came,true,s.fin,s.rs,s.code,s.sure,s.br⟩):=fun W e=>by subst e;exact (h.put ⟨s.l,s.u,s.id,s.bs,s.lost,s.came,true,s.fin,s.rs,s.code,s.sure,s.br⟩ 4 (.bool true) rfl rfl rfl rfl).to (kept_set _ _ _ _)
 have HH:Hid (RTo w w p G s):=h.here (Below.refl _ _)
 obtain ⟨f,hf1⟩:∃ f,s.fd=f:=⟨_,rfl⟩
 obtain ⟨r,hr1⟩:∃ f,s.rs=f:=⟨_,rfl⟩
 have HFS:Hid (finishS s=if f=true∨r=true then (6,s) else (0,⟨s.l,s.u,s.id,s.bs,s.lost,s.came,true,s.fin,s.rs,s.code,s.sure,s.br⟩)):=by unfold finishS;rw [hf1,hr1];rfl
 rw [hf1] at hc4
 rw [hr1] at hc5
 clear h hf1 hr1
 cases f
 ·cases r
  ·have e:finishS s=(0,⟨s.l,s.u,s.id,s.bs,s.lost,s.came,true,s.fin,s.rs,s.code,s.sure,s.br⟩):=by rw [HFS.out];rfl
   rw [e]
   clear e HFS HH
   go_enter Try.func13,Try.ntmps13
   go_wp2_with fail
   go_ret
   exact ⟨rfl,HN.out _ rfl⟩
  ·have e:finishS s=(6,s):=by rw [HFS.out];rfl
   rw [e]
   clear e HFS
   go_enter Try.func13,Try.ntmps13
   go_wp2_with fail
   go_ret
   exact ⟨rfl,HH.out⟩
 ·have e:finishS s=(6,s):=by rw [HFS.out];rfl
  rw [e]
  clear e HFS
  go_enter Try.func13,Try.ntmps13
  go_wp2_with fail
  go_ret
  exact ⟨rfl,HH.out⟩
/-- told: the Fin went, or did not. -/
theorem rtold_st (h:RIn w p G v1 v8 v9 s) (hfin:0≤s.fin∧s.fin≤3) (f:Bool) :
  Calls Try.prog 72 #[.pointer (some ⟨p,0,none⟩),.bool f] w fun e w'=>e=.returned (.tuple #[])∧RTo w w' p G ⟨s.l,s.u,s.id,s.bs,s.lost,s.came,s.fd,if f=true then tellN s.fin else s.fin,s.rs,s.code,s.sure,s.br⟩:=by
 obtain ⟨_,_,_,_,_,_,_,_,_,_,hc10,hc11,hc12,_⟩:=h.cells
 have hf:=h.free 10
 have hf2:=h.free 12
 have HN:Hid (RTo w ((w.setCell ⟨p,10,none⟩ (.bool (ftN s.fin || f))).setCell ⟨p,12,none⟩ (.bool (fsN s.fin || f))) p G ⟨s.l,s.u,s.id,s.bs,s.lost,s.came,s.fd,if f=true then tellN s.fin else s.fin,s.rs,s.code,s.sure,s.br⟩):=by
  have hk:Kept [p] w ((w.setCell ⟨p,10,none⟩ (.bool (ftN s.fin || f))).setCell ⟨p,12,none⟩ (.bool (fsN s.fin || f))):=(kept_set _ _ _ _).then (kept_set _ _ _ _)
  refine h.step (u1:=v1) (u8:=v8) (u9:=v9) hk ?_ (h.data' hk) (h.came' hk) (h.lost' hk) (fun _ h=>.inl h) (fun _ h=>.inl h) (fun _ h=>.inl h)
  have h1:=set_slot (set_slot h.hp 10 (.bool (ftN s.fin || f))) 12 (.bool (fsN s.fin || f))
  rw [h1]
  congr 2
  have e1:(ftN s.fin || f)=ftN (if f=true then tellN s.fin else s.fin):=by
   cases f
   ·simp
   ·rw [if_pos rfl,Bool.or_true];unfold ftN tellN;symm;apply decide_eq_true;obtain ⟨q1,q2⟩:=hfin;split <;> omega
  have e2:(fsN s.fin || f)=fsN (if f=true then tellN s.fin else s.fin):=by
   cases f
   ·simp
   ·rw [if_pos rfl,Bool.or_true];unfold fsN tellN;symm;apply decide_eq_true;split <;> omega
  have e3:fcN s.fin=fcN (if f=true then tellN s.fin else s.fin):=by
   cases f
   ·simp
   ·rw [if_pos rfl];unfold fcN tellN;split
    ·rename_i hx;rw [decide_eq_false (by omega),decide_eq_false (by omega)]
    ·rfl
  rw [e1,e2]
  unfold rC
  rw [← e3]
  rfl
 obtain ⟨a,ha⟩:∃ a,ftN s.fin=a:=⟨_,rfl⟩
 obtain ⟨b,hb⟩:∃ a,fsN s.fin=a:=⟨_,rfl⟩
 rw [ha] at hc10 HN
 rw [hb] at hc12 HN
 clear h ha hb hc11 hfin
 obtain ⟨s2,hs2⟩:∃ x:St,(⟨s.l,s.u,s.id,s.bs,s.lost,s.came,s.fd,if f=true then tellN s.fin else s.fin,s.rs,s.code,s.sure,s.br⟩:St)=x:=⟨_,rfl⟩
 rw [hs2] at HN ⊢
 clear hs2
 cases a <;> cases b <;> cases f
 all_goals
  go_enter Try.func72,Try.ntmps72
  go_wp2_with fail
  go_end0
  exact ⟨rfl,HN.out⟩
end
end Go.Proofs.Ytoahkffdoaphlaa.Se
