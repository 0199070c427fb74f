/- Joined texts. Conditions: as each theorem lists them. -/
import Derived.Test.YtoahkffdoaphlaaJZa
import Derived.Test.YtoahkffdoaphlaaJWc
import Derived.Laws.Cover1
set_option linter.unusedSimpArgs false
set_option linter.unusedVariables false
set_option maxRecDepth 100000
set_option maxHeartbeats 80000000
namespace Go.Proofs.Ytoahkffdoaphlaa.Re
open Go Go.RowKit Go.Proofs.Ytoahkffdoaphlaa Go.Proofs.Ytoahkffdoaphlaa.Sp Go.Proofs.Ytoahkffdoaphlaa.Se Go.Maps
/-- A stream: its edges, its grant (room, read, told), top, what was taken, ended, broken, code, sure; what is kept. -/
structure Rs where
 es:List Int
 rm:Int
 rd:Int
 tl:Int
 top:Int
 tk:Int
 en:Bool
 br:Bool
 code:Int
 sure:Int
 K:Nat→Nat
/-- Why nothing may come up to that place, or end there. -/
def refuseS (s:Rs) (z:Int) (fin:Bool):Int:=if z > s.tl then 7 else if (s.en && decide (z > s.top)) || (fin && decide (z<s.top)) then 8 else 0
def upS (s:Rs) (z:Int):Int:=max (z - s.top) 0
/-- What is kept behind bytes came to off. -/
def mixK (K:Nat→Nat) (gs:List Int) (off:Nat) (b:List Nat):Nat→Nat:=fun x=>if mem gs (x:Int)=true then b.getD (x - off) 0 else K x
def laidS (s:Rs) (off:Nat) (fin:Bool) (b:List Nat):Rs :=
 ⟨turn s.es off (off+b.length) true,s.rm,s.rd,s.tl,s.top,s.tk,s.en || fin,s.br,s.code,s.sure,mixK s.K (gapsF s.es (max (off:Int) s.tk) (off+b.length)) off b⟩
def reachS (s:Rs) (z:Int):Rs:=⟨s.es,s.rm,s.rd,s.tl,s.top+upS s z,s.tk,s.en,s.br,s.code,s.sure,s.K⟩
def putS (s:Rs) (off:Int) (fin:Bool) (b:List Nat):Int × Int × Rs :=
 if off<0∨off > 4611686018427387903 - (b.length:Int) then (0,1,s)
 else if refuseS s (off+b.length) fin≠0 then (0,refuseS s (off+b.length) fin,s)
 else if b.length=0∧fin=false then (0,0,laidS s off.toNat fin b)
 else (upS s (off+b.length),0,reachS (laidS s off.toNat fin b) (off+b.length))
def wholeS (s:Rs):Bool:=s.en && allF s.es 0 s.top
def breakS (s:Rs) (code end' sure:Int):Int × Int × Rs :=
 if code<0∨code > 4611686018427387903∨sure<0∨sure > end'∨end' > 4611686018427387903 then (0,1,s)
 else if refuseS s end' true≠0 then (0,refuseS s end' true,s)
 else (upS s end',0,reachS ⟨s.es,s.rm,s.rd,s.tl,s.top,s.tk,true,s.br || !wholeS s,if s.br then s.code else if wholeS s then s.code else code,if s.br then min s.sure sure else if wholeS s then s.sure else sure,s.K⟩ end')
def readyS (s:Rs):Int:=if s.br then min (min (firstF s.es s.tk) s.top) (max s.sure s.tk) else min (firstF s.es s.tk) s.top
def overS (s:Rs):Int:=if s.br && decide (s.tk ≥ s.sure) then 2 else if s.en && !s.br && decide (s.tk=s.top) then 1 else 0
def nS (s:Rs) (most:Int):Int:=min (min (max most 0) 1048576) (readyS s - s.tk)
def takenS (s:Rs) (m:Int) (K:Nat→Nat):Rs:=⟨s.es,s.rm,s.rd+Cr.eatF m,s.tl,s.top,s.tk+m,s.en,s.br,s.code,s.sure,K⟩
/-- The stream's cells. -/
def rcC (s:Rs) (v0 v4:Value):Array Value:=#[v0,.int .i64 s.rm,.int .i64 s.rd,.int .i64 s.tl,v4,.int .i64 s.top,.int .i64 s.tk,.bool s.en,.bool s.br,.int .i64 s.code,.int .i64 s.sure]
structure RcIn (w:World) (p:Nat) (F:List Nat) (v0 v4:Value) (n:Nat) (s:Rs):Prop where
 hp:w.heap[p]?=some (.cells (rcC s v0 v4) 77 (0,0))
 hF:∀ k ∈ F,k<w.heap.size
 pF:p ∈ F
 set:SetV w p v0 s.es
 kp:KpIn w v4 n s.K
 f0:∀ k ∈ fe v0,k ∈ F
 f4:∀ k ∈ fm v4,k ∈ F
/-- What a call leaves. -/
def RcTo (w w':World) (p:Nat) (F:List Nat) (n:Nat) (s:Rs):Prop:=∃ F' v0 v4,RcIn w' p F' v0 v4 n s∧Kept F w w'∧∀ k ∈ F',k ∈ F∨w.heap.size≤k
section
variable {w w':World} {p:Nat} {F:List Nat} {v0 v4:Value} {n:Nat} {s:Rs}
theorem RcIn.kept {G:List Nat} (h:RcIn w p F v0 v4 n s) (hk:Kept G w w') (hd:∀ k ∈ F,k ∉ G):RcIn w' p F v0 v4 n s :=
 ⟨(hk.block p (h.hF p h.pF) (hd p h.pF)).trans h.hp,fun k hk'=>Nat.lt_of_lt_of_le (h.hF k hk') hk.size,h.pF,h.set.kept hk fun k hk'=>hd k (h.f0 k hk'),h.kp.kept hk fun k hk'=>hd k (h.f4 k hk'),h.f0,h.f4⟩
theorem RcIn.below (h:RcIn w p F v0 v4 n s) (hb:Below w.heap.size w w'):RcIn w' p F v0 v4 n s:=h.kept (Kept.ofBelow [] hb) fun _ _=>by simp
theorem RcIn.drewN (h:RcIn w p F v0 v4 n s) (q:Nat):RcIn (w.drewN q) p F v0 v4 n s:=h.below ⟨rfl,rfl,rfl,Nat.le_refl _,fun _ _=>rfl⟩
theorem RcIn.here (h:RcIn w p F v0 v4 n s) (hb:Below w.heap.size w w'):RcTo w w' p F n s:=⟨F,v0,v4,h.below hb,Kept.ofBelow F hb,fun _ hk=>.inl hk⟩
theorem RcIn.mono (h:RcIn w p F v0 v4 n s) {n':Nat} (hn:n≤n'):RcIn w p F v0 v4 n' s:=⟨h.hp,h.hF,h.pF,h.set,h.kp.mono hn,h.f0,h.f4⟩
theorem RcTo.mono (h:RcTo w w' p F n s) {n':Nat} (hn:n≤n'):RcTo w w' p F n' s:=by
 obtain ⟨F',a,b,h1,h2,h3⟩:=h
 exact ⟨F',a,b,h1.mono hn,h2,h3⟩
theorem RcTo.trans {w1:World} {s2:Rs} {F1:List Nat} (hk:Kept F w w1) (hs:∀ k ∈ F1,k ∈ F∨w.heap.size≤k) (h:RcTo w1 w' p F1 n s2):RcTo w w' p F n s2:=by
 obtain ⟨F2,a,b,h1,h2,h3⟩:=h
 refine ⟨F2,a,b,h1,hk.trans h2 hs,fun k hk'=>?_⟩
 rcases h3 k hk' with h | h
 ·exact hs k h
 ·exact .inr (Nat.le_trans hk.size h)
theorem RcIn.cells (h:RcIn w p F v0 v4 n s):w.cell? ⟨p,0,none⟩=some v0∧w.cell? ⟨p,1,none⟩=some (.int .i64 s.rm)∧w.cell? ⟨p,2,none⟩=some (.int .i64 s.rd)∧w.cell? ⟨p,3,none⟩=some (.int .i64 s.tl)∧w.cell? ⟨p,4,none⟩=some v4∧w.cell? ⟨p,5,none⟩=some (.int .i64 s.top)∧w.cell? ⟨p,6,none⟩=some (.int .i64 s.tk)∧w.cell? ⟨p,7,none⟩=some (.bool s.en)∧w.cell? ⟨p,8,none⟩=some (.bool s.br)∧w.cell? ⟨p,9,none⟩=some (.int .i64 s.code)∧w.cell? ⟨p,10,none⟩=some (.int .i64 s.sure) :=
 ⟨cell_slot h.hp rfl,cell_slot h.hp rfl,cell_slot h.hp rfl,cell_slot h.hp rfl,cell_slot h.hp rfl,cell_slot h.hp rfl,cell_slot h.hp rfl,cell_slot h.hp rfl,cell_slot h.hp rfl,cell_slot h.hp rfl,cell_slot h.hp rfl⟩
theorem RcIn.free (h:RcIn w p F v0 v4 n s) (j:Nat):w.frozen? ⟨p,j,none⟩=false:=free_slot h.hp
theorem RcIn.setIn (h:RcIn w p F v0 v4 n s):SetIn w p 0 77 (rcC s v0 v4) s.es:=by
 obtain ⟨h1,A,c,e,h2,h3,h4,h5⟩:=h.set
 exact ⟨h1,h.hp,A,c,by rw [← e];rfl,h2,h3,h4,h5⟩
theorem RcIn.gr (h:RcIn w p F v0 v4 n s):Cr.GrIn w p 1 77 (rcC s v0 v4) s.rm s.rd s.tl:=⟨h.hp,rfl,rfl,rfl⟩
theorem RcIn.pm (h:RcIn w p F v0 v4 n s):p ∉ fm v4:=fun hm=>by
 obtain ⟨es,cl,hb⟩:=h.kp.isMap _ hm
 rw [h.hp] at hb;cases hb
/-- A cell of the stream that is no slice and no map is written. -/
theorem RcIn.put (h:RcIn w p F v0 v4 n s) (s':Rs) (j:Nat) (u:Value) (he:(rcC s v0 v4).setIfInBounds j u=rcC s' v0 v4) (hb:s'.es=s.es) (hl:s'.K=s.K):RcIn (w.setCell ⟨p,j,none⟩ u) p F v0 v4 n s':=by
 have hk:Kept [p] w (w.setCell ⟨p,j,none⟩ u):=⟨rfl,rfl,rfl,by simp [World.setCell],fun k _ hn=>Below.heap_setCell _ _ _ _ (by simpa using hn)⟩
 refine ⟨by rw [← he];exact set_slot h.hp j u,fun k hk'=>by simpa [World.setCell] using h.hF k hk',h.pF,?_,?_,h.f0,h.f4⟩
 ·rw [hb];exact h.set.kept hk fun k hk' e=>h.set.away' (by simp at e;exact e ▸ hk')
 ·rw [hl];exact h.kp.kept hk fun k hk' e=>h.pm (by simp at e;exact e ▸ hk')
theorem RcIn.kput (h:RcIn w p F v0 v4 n s) (j:Nat) (u:Value):Kept F w (w.setCell ⟨p,j,none⟩ u):=kept_put w h.pF j u
theorem RcIn.putTo (h:RcIn w p F v0 v4 n s) (s':Rs) (j:Nat) (u:Value) (he:(rcC s v0 v4).setIfInBounds j u=rcC s' v0 v4) (hb:s'.es=s.es) (hl:s'.K=s.K):RcTo w (w.setCell ⟨p,j,none⟩ u) p F n s' :=
 ⟨F,v0,v4,h.put s' j u he hb hl,h.kput j u,fun _ hk=>.inl hk⟩
/-- The grant is turned. -/
theorem RcIn.toGr (h:RcIn w p F v0 v4 n s) {a b c:Int} (hc:Cr.GrTo w w' p 1 77 (rcC s v0 v4) a b c):RcTo w w' p F n ⟨s.es,a,b,c,s.top,s.tk,s.en,s.br,s.code,s.sure,s.K⟩:=by
 obtain ⟨cur',h1,h2,h3⟩:=hc
 have e:cur'=rcC ⟨s.es,a,b,c,s.top,s.tk,s.en,s.br,s.code,s.sure,s.K⟩ v0 v4:=by
  apply Array.ext_getElem?
  intro i
  match i with
  | 0=>exact (h2.2 0 (.inl (by omega))).trans rfl
  | 1=>exact h1.c0
  | 2=>exact h1.c1
  | 3=>exact h1.c2
  | i+4=>exact (h2.2 (i+4) (.inr (by omega))).trans rfl
 have hp':=h1.hp
 rw [e] at hp'
 have hk:Kept [p] w w':=Kept.ofGrown h3 (by simp)
 exact ⟨F,v0,v4,⟨hp',fun k hk'=>Nat.lt_of_lt_of_le (h.hF k hk') h3.size,h.pF,h.set.kept hk fun k hk' e=>h.set.away' (by simp at e;exact e ▸ hk'),h.kp.kept hk fun k hk' e=>h.pm (by simp at e;exact e ▸ hk'),h.f0,h.f4⟩,hk.more (fun i hi=>by simp at hi;exact hi ▸ h.pF),fun _ hk=>.inl hk⟩
/-- The set is turned. -/
theorem RcIn.toSet (h:RcIn w p F v0 v4 n s) {es:List Int} {v:Value} (hg:w.grownBy w' (some p)) (hs:SetIn w' p 0 77 ((rcC s v0 v4).setIfInBounds 0 v) es) (hn:NewV w v∨v=v0):RcTo w w' p F n ⟨es,s.rm,s.rd,s.tl,s.top,s.tk,s.en,s.br,s.code,s.sure,s.K⟩:=by
 have hk:Kept [p] w w':=Kept.ofGrown hg (by simp)
 have hv:=setV_of hs (show _=some v from rfl)
 have hnew:∀ k ∈ fe v,k ∈ fe v0∨w.heap.size≤k:=fun k hk'=>by
  rcases hn with hn | hn
  ·exact .inr (newV_fe hn k hk')
  ·exact .inl (hn ▸ hk')
 refine ⟨F ++ fe v,v,v4,⟨hs.2.1,fun k hk'=>?_,by simp [h.pF],hv,h.kp.kept hk fun k hk' e=>h.pm (by simp at e;exact e ▸ hk'),fun k hk'=>by simp [hk'],fun k hk'=>by simp [h.f4 k hk']⟩,hk.more (fun i hi=>by simp at hi;exact hi ▸ h.pF),fun k hk'=>?_⟩
 ·rw [List.mem_append] at hk'
  rcases hk' with hk' | hk'
  ·exact Nat.lt_of_lt_of_le (h.hF k hk') hg.size
  ·exact hv.lt k hk'
 ·rw [List.mem_append] at hk'
  rcases hk' with hk' | hk'
  ·exact .inl hk'
  ·rcases hnew k hk' with hm | hm
   ·exact .inl (h.f0 k hm)
   ·exact .inr hm
/-- The map is turned, and the field that leads to it. -/
theorem RcIn.toKp (h:RcIn w p F v0 v4 n s) {v':Value} {n':Nat} {K:Nat→Nat} (hp':w'.heap[p]?=some (.cells ((rcC s v0 v4).setIfInBounds 4 v') 77 (0,0))) (hk':KpIn w' v' n' K) (hk:Kept (p :: fm v4) w w') (hn:∀ k ∈ fm v',k ∈ fm v4∨w.heap.size≤k) (hd:∀ k ∈ fe v0,k ∉ fm v4):RcTo w w' p F n' ⟨s.es,s.rm,s.rd,s.tl,s.top,s.tk,s.en,s.br,s.code,s.sure,K⟩:=by
 refine ⟨F ++ fm v',v0,v',⟨hp',fun k hk1=>?_,by simp [h.pF],h.set.kept hk fun k hk1 e=>?_,hk',fun k hk1=>by simp [h.f0 k hk1],fun k hk1=>by simp [hk1]⟩,hk.more (fun i hi=>?_),fun k hk1=>?_⟩
 ·rw [List.mem_append] at hk1
  rcases hk1 with hk1 | hk1
  ·exact Nat.lt_of_lt_of_le (h.hF k hk1) hk.size
  ·exact hk'.lt k hk1
 ·rcases List.mem_cons.1 e with e | e
  ·exact h.set.away' (e ▸ hk1)
  ·exact hd k hk1 e
 ·rcases List.mem_cons.1 hi with e | e
  ·exact e ▸ h.pF
  ·exact h.f4 _ e
 ·rw [List.mem_append] at hk1
  rcases hk1 with hk1 | hk1
  ·exact .inl hk1
  ·rcases hn k hk1 with hm | hm
   ·exact .inl (h.f4 k hm)
   ·exact .inr hm
theorem set_not_map {es:List Int} (h:SetV w p v0 es) (hk:KpIn w v4 n s.K):∀ k ∈ fe v0,k ∉ fm v4:=fun k hm hu=>by
 obtain ⟨_,A,c,rfl,_,_,h4,_⟩:=h
 obtain ⟨h0,a,rfl,rfl⟩:=fe_mem.1 hm
 exact rd_map hk h4 h0 _ rfl hu
end
def newR:Rs:=⟨[],400,0,400,0,0,false,false,0,0,fun _=>0⟩
theorem new_rc (w:World) (id:Int) :
  Calls Try.prog 32 #[.int .i64 id] w fun e w'=>∃ p F v0 v4,e=.returned (.pointer (some ⟨p,0,none⟩))∧RcIn w' p F v0 v4 0 newR∧(∀ k ∈ F,w.heap.size≤k)∧Below w.heap.size w w':=by
 have HG:=Lib.hid (fun W=>Cr.newgrant_any W 400)
 rw [show Cr.roomF 400=400 from rfl] at HG
 go_enter Try.func32,Try.ntmps32
 go_wp2_with fail
 refine (HG.out _).mono ?_
 rintro e w1 ⟨rfl,hb⟩
 have HB:=Lib.hid hb
 clear hb
 go_wp2_with fail
 go_ret
 refine ⟨w1.heap.size,[w1.heap.size],.slice none 0 0,.map none,rfl,⟨heap_alloc_new w1 _,?_,by simp,⟨ok_nil,none,0,rfl,Nat.le_refl _,fun _=>.inl ⟨rfl,rfl⟩,Rd.nil _ _ _,fun a ha=>by cases ha⟩,KpIn.none _ _,fun k hk=>by simp [fe] at hk,fun k hk=>by simp [fm] at hk⟩,?_,HB.out.alloc HB.out.size _⟩
 ·intro k hk
  simp at hk
  simp [hk]
 ·intro k hk
  simp at hk
  rw [hk];exact HB.out.size
section
variable {w w':World} {p:Nat} {F:List Nat} {v0 v4:Value} {n:Nat} {s:Rs}
theorem top_rc (h:RcIn w p F v0 v4 n s):Calls Try.prog 45 #[.pointer (some ⟨p,0,none⟩)] w fun e w'=>e=.returned (.int .i64 s.top)∧w'=w:=by
 obtain ⟨_,_,_,_,_,hc5,_⟩:=h.cells
 clear h
 go_enter Try.func45,Try.ntmps45
 go_wp2
 go_ret
 exact ⟨rfl,rfl⟩
theorem ended_rc (h:RcIn w p F v0 v4 n s):Calls Try.prog 46 #[.pointer (some ⟨p,0,none⟩)] w fun e w'=>e=.returned (.bool s.en)∧w'=w:=by
 obtain ⟨_,_,_,_,_,_,_,hc7,_⟩:=h.cells
 clear h
 go_enter Try.func46,Try.ntmps46
 go_wp2
 go_ret
 exact ⟨rfl,rfl⟩
theorem rest_rc (h:RcIn w p F v0 v4 n s) (ht:0≤s.top∧s.top≤4611686018427387903) (hk:0≤s.tk∧s.tk≤4611686018427387903):Calls Try.prog 47 #[.pointer (some ⟨p,0,none⟩)] w fun e w'=>e=.returned (.int .i64 (s.top - s.tk))∧∃ q,w'=w.drewN q:=by
 obtain ⟨_,_,_,_,_,hc5,hc6,_⟩:=h.cells
 have hw:IntKind.i64.wrap (s.top - s.tk)=s.top - s.tk:=IntWalk.i64_in _ (by omega)
 obtain ⟨a,ha⟩:∃ x,s.top=x:=⟨_,rfl⟩
 obtain ⟨b,hb⟩:∃ x,s.tk=x:=⟨_,rfl⟩
 rw [ha] at hc5
 rw [hb] at hc6
 rw [ha,hb] at hw ⊢
 clear h ht hk ha hb
 go_enter Try.func47,Try.ntmps47
 go_upto_region 1 with (fail)
 go_quiet (fail)
 go_wp2_with fail
 go_ret
 exact ⟨rfl,_,rfl⟩
theorem refuse_rc (h:RcIn w p F v0 v4 n s) (z:Int) (fin:Bool):Calls Try.prog 88 #[.pointer (some ⟨p,0,none⟩),.int .i64 z,.bool fin] w fun e w'=>e=.returned (.int .i64 (refuseS s z fin))∧w'=w:=by
 obtain ⟨_,_,_,hc3,_,hc5,_,hc7,_⟩:=h.cells
 have HD:Hid (refuseS s z fin=if s.tl<z then 7 else if (s.en && decide (s.top<z)) || (fin && decide (z<s.top)) then 8 else 0):=rfl
 obtain ⟨r,hr⟩:∃ x,refuseS s z fin=x:=⟨_,rfl⟩
 obtain ⟨tl,htl⟩:∃ x,s.tl=x:=⟨_,rfl⟩
 obtain ⟨top,htop⟩:∃ x,s.top=x:=⟨_,rfl⟩
 obtain ⟨en,hen⟩:∃ x,s.en=x:=⟨_,rfl⟩
 rw [hr,htl,htop,hen] at HD
 rw [hr]
 rw [htl] at hc3
 rw [htop] at hc5
 rw [hen] at hc7
 clear h hr htl htop hen
 by_cases h1:tl<z
 ·obtain rfl:r=7:=by rw [HD.out];simp [h1]
  clear HD
  go_enter Try.func88,Try.ntmps88
  go_wp2_with fail
  go_ret
  exact ⟨rfl,rfl⟩
 ·cases en
  ·cases fin
   ·obtain rfl:r=0:=by rw [HD.out];simp [h1]
    clear HD
    go_enter Try.func88,Try.ntmps88
    go_wp2_with fail
    go_ret
    exact ⟨rfl,rfl⟩
   ·by_cases h3:z<top
    ·obtain rfl:r=8:=by rw [HD.out];simp [h1,h3]
     clear HD
     go_enter Try.func88,Try.ntmps88
     go_wp2_with fail
     go_ret
     exact ⟨rfl,rfl⟩
    ·obtain rfl:r=0:=by rw [HD.out];simp [h1,h3]
     clear HD
     go_enter Try.func88,Try.ntmps88
     go_wp2_with fail
     go_ret
     exact ⟨rfl,rfl⟩
  ·by_cases h2:top<z
   ·obtain rfl:r=8:=by rw [HD.out];simp [h1,h2]
    clear HD
    go_enter Try.func88,Try.ntmps88
    go_wp2_with fail
    go_ret
    exact ⟨rfl,rfl⟩
   ·cases fin
    ·obtain rfl:r=0:=by rw [HD.out];simp [h1,h2]
     clear HD
     go_enter Try.func88,Try.ntmps88
     go_wp2_with fail
     go_ret
     exact ⟨rfl,rfl⟩
    ·by_cases h3:z<top
     ·obtain rfl:r=8:=by rw [HD.out];simp [h1,h2,h3]
      clear HD
      go_enter Try.func88,Try.ntmps88
      go_wp2_with fail
      go_ret
      exact ⟨rfl,rfl⟩
     ·obtain rfl:r=0:=by rw [HD.out];simp [h1,h2,h3]
      clear HD
      go_enter Try.func88,Try.ntmps88
      go_wp2_with fail
      go_ret
      exact ⟨rfl,rfl⟩
theorem reach_rc (h:RcIn w p F v0 v4 n s) (ht:0≤s.top∧s.top≤4611686018427387903) (z:Int) (hz:0≤z∧z≤4611686018427387903):Calls Try.prog 90 #[.pointer (some ⟨p,0,none⟩),.int .i64 z] w fun e w'=>e=.returned (.int .i64 (upS s z))∧RcTo w w' p F n (reachS s z):=by
 obtain ⟨_,_,_,_,_,hc5,_⟩:=h.cells
 have hf:=h.free 5
 have hw1:IntKind.i64.wrap (z - s.top)=z - s.top:=IntWalk.i64_in _ (by omega)
 have hm:max (z - s.top) 0=upS s z:=rfl
 have hw2:IntKind.i64.wrap (s.top+upS s z)=s.top+upS s z:=IntWalk.i64_in _ (by unfold upS;omega)
 have HN:=Lib.hid (h.putTo (reachS s z) 5 (.int .i64 (s.top+upS s z)) rfl rfl rfl)
 obtain ⟨u,hu⟩:∃ x,upS s z=x:=⟨_,rfl⟩
 obtain ⟨r,hr⟩:∃ x,reachS s z=x:=⟨_,rfl⟩
 obtain ⟨a,ha⟩:∃ x,s.top=x:=⟨_,rfl⟩
 rw [hr] at HN ⊢
 rw [hu] at HN hm hw2 ⊢
 rw [ha] at HN hm hw1 hw2 hc5
 clear h ht hz hu hr ha
 go_enter Try.func90,Try.ntmps90
 go_wp2_with fail
 go_ret
 exact ⟨rfl,HN.out⟩
theorem whole_rc (h:RcIn w p F v0 v4 n s) (hl:s.es.length≤17592186044416):Calls Try.prog 89 #[.pointer (some ⟨p,0,none⟩)] w fun e w'=>e=.returned (.bool (wholeS s))∧∃ q,w'=w.drewN q:=by
 have HA:Hid (∀ q,Calls Try.prog 75 #[.pointer (some ⟨p,0,none⟩),.int .i64 0,.int .i64 s.top] (w.drewN q) fun e w'=>e=.returned (.bool (allF s.es 0 s.top))∧∃ m,w'=(w.drewN q).drewN m):=fun q=>by
  obtain ⟨A,c,h1,_⟩:=(h.drewN q).setIn.at (by omega)
  exact all_any _ _ _ _ A c 0 s.top _ h1
 obtain ⟨_,_,_,_,_,hc5,_,hc7,_⟩:=h.cells
 have HD:Hid (wholeS s=(s.en && allF s.es 0 s.top)):=rfl
 obtain ⟨r,hr⟩:∃ x,wholeS s=x:=⟨_,rfl⟩
 obtain ⟨top,htop⟩:∃ x,s.top=x:=⟨_,rfl⟩
 obtain ⟨en,hen⟩:∃ x,s.en=x:=⟨_,rfl⟩
 obtain ⟨al,hal⟩:∃ x,allF s.es 0 top=x:=⟨_,rfl⟩
 rw [hr,htop,hen,hal] at HD
 rw [htop,hal] at HA
 rw [hr]
 rw [htop] at hc5
 rw [hen] at hc7
 clear h hr htop hen hal
 cases en
 ·obtain rfl:r=false:=by rw [HD.out];rfl
  clear HD
  go_enter Try.func89,Try.ntmps89
  go_upto_region 1 with (fail)
  go_quiet (fail)
  go_wp2_with fail
  go_ret
  exact ⟨rfl,_,rfl⟩
 ·obtain rfl:r=al:=by rw [HD.out];rfl
  clear HD
  go_enter Try.func89,Try.ntmps89
  go_upto_region 1 with (fail)
  go_quiet ((go_at_call 75;exact Calls.quiet_of (HA.out _)))
  go_wp2_with fail
  go_ret
  exact ⟨rfl,_,rfl⟩
theorem ready_rc (h:RcIn w p F v0 v4 n s) (hl:s.es.length≤17592186044416) (hk:0≤s.tk):Calls Try.prog 80 #[.pointer (some ⟨p,0,none⟩)] w fun e w'=>e=.returned (.int .i64 (readyS s))∧∃ q,w'=w.drewN q:=by
 have HA:Hid (∀ q,Calls Try.prog 105 #[.pointer (some ⟨p,0,none⟩),.int .i64 s.tk] (w.drewN q) fun e w'=>e=.returned (.int .i64 (firstF s.es s.tk))∧∃ m,w'=(w.drewN q).drewN m):=fun q=>by
  obtain ⟨A,c,h1,_⟩:=(h.drewN q).setIn.at (by omega)
  have:=first_any _ _ _ _ A c s.tk _ h1
  rw [show max s.tk 0=s.tk by omega] at this
  exact this
 obtain ⟨_,_,_,_,_,hc5,hc6,_,hc8,_,hc10⟩:=h.cells
 have HD:Hid (readyS s=if s.br then min (min (firstF s.es s.tk) s.top) (max s.sure s.tk) else min (firstF s.es s.tk) s.top):=rfl
 obtain ⟨r,hr⟩:∃ x,readyS s=x:=⟨_,rfl⟩
 obtain ⟨top,htop⟩:∃ x,s.top=x:=⟨_,rfl⟩
 obtain ⟨tk,htk⟩:∃ x,s.tk=x:=⟨_,rfl⟩
 obtain ⟨br,hbr⟩:∃ x,s.br=x:=⟨_,rfl⟩
 obtain ⟨sure,hsu⟩:∃ x,s.sure=x:=⟨_,rfl⟩
 obtain ⟨fi,hfi⟩:∃ x,firstF s.es tk=x:=⟨_,rfl⟩
 rw [hr,htop,htk,hbr,hsu,hfi] at HD
 rw [htk,hfi] at HA
 rw [hr]
 rw [htop] at hc5
 rw [htk] at hc6
 rw [hbr] at hc8
 rw [hsu] at hc10
 clear h hr htop htk hbr hsu hfi hk hl
 cases br
 ·obtain rfl:r=min fi top:=by rw [HD.out];rfl
  clear HD
  go_enter Try.func80,Try.ntmps80
  go_upto_region 1 with (fail)
  go_quiet ((go_at_call 105;exact Calls.quiet_of (HA.out _)))
  go_wp2_with fail
  go_ret
  exact ⟨rfl,_,rfl⟩
 ·obtain rfl:r=min (min fi top) (max sure tk):=by rw [HD.out];rfl
  clear HD
  go_enter Try.func80,Try.ntmps80
  go_upto_region 1 with (fail)
  go_quiet ((go_at_call 105;exact Calls.quiet_of (HA.out _)))
  go_upto_region 3 with (fail)
  obtain ⟨w1,hw1⟩:∃ x,w.drewN nq=x:=⟨_,rfl⟩
  have d5:w1.cell? ⟨p,5,none⟩=some (.int .i64 top):=by rw [← hw1];exact hc5
  have d6:w1.cell? ⟨p,6,none⟩=some (.int .i64 tk):=by rw [← hw1];exact hc6
  have d10:w1.cell? ⟨p,10,none⟩=some (.int .i64 sure):=by rw [← hw1];exact hc10
  have HW:Hid (∃ z,w1=w.drewN z):=⟨nq,hw1.symm⟩
  rw [hw1]
  clear hw1 hc5 hc6 hc8 hc10
  go_quiet (fail)
  go_wp2_with fail
  go_ret
  obtain ⟨z,hz⟩:=HW.out
  exact ⟨ret_int (by omega),z+nq,by rw [hz,World.drewN_drewN]⟩
theorem over_rc (h:RcIn w p F v0 v4 n s):Calls Try.prog 37 #[.pointer (some ⟨p,0,none⟩)] w fun e w'=>e=.returned (.int .i64 (overS s))∧∃ q,w'=w.drewN q:=by
 obtain ⟨_,_,_,_,_,hc5,hc6,hc7,hc8,_,hc10⟩:=h.cells
 have HD:Hid (overS s=if s.br && decide (s.sure≤s.tk) then 2 else if s.en && !s.br && decide (s.tk=s.top) then 1 else 0):=rfl
 obtain ⟨r,hr⟩:∃ x,overS s=x:=⟨_,rfl⟩
 obtain ⟨top,htop⟩:∃ x,s.top=x:=⟨_,rfl⟩
 obtain ⟨tk,htk⟩:∃ x,s.tk=x:=⟨_,rfl⟩
 obtain ⟨br,hbr⟩:∃ x,s.br=x:=⟨_,rfl⟩
 obtain ⟨en,hen⟩:∃ x,s.en=x:=⟨_,rfl⟩
 obtain ⟨sure,hsu⟩:∃ x,s.sure=x:=⟨_,rfl⟩
 rw [hr,htop,htk,hbr,hen,hsu] at HD
 rw [hr]
 rw [htop] at hc5
 rw [htk] at hc6
 rw [hen] at hc7
 rw [hbr] at hc8
 rw [hsu] at hc10
 clear h hr htop htk hbr hen hsu
 cases br
 ·cases en
  ·obtain rfl:r=0:=by rw [HD.out];simp
   clear HD
   go_enter Try.func37,Try.ntmps37
   go_upto_region 1 with (fail)
   go_quiet (fail)
   go_upto_region 3 with (fail)
   obtain ⟨w1,hw1⟩:∃ x,w.drewN nq=x:=⟨_,rfl⟩
   have d5:w1.cell? ⟨p,5,none⟩=some (.int .i64 top):=by rw [← hw1];exact hc5
   have d6:w1.cell? ⟨p,6,none⟩=some (.int .i64 tk):=by rw [← hw1];exact hc6
   have d7:w1.cell? ⟨p,7,none⟩=some (.bool false):=by rw [← hw1];exact hc7
   have d8:w1.cell? ⟨p,8,none⟩=some (.bool false):=by rw [← hw1];exact hc8
   have HW:Hid (∃ z,w1=w.drewN z):=⟨nq,hw1.symm⟩
   rw [hw1]
   clear hw1 hc5 hc6 hc7 hc8 hc10
   go_quiet (fail)
   go_wp2_with fail
   go_ret
   obtain ⟨z,hz⟩:=HW.out
   exact ⟨rfl,z+nq,by rw [hz,World.drewN_drewN]⟩
  ·by_cases h2:tk=top
   ·obtain rfl:r=1:=by rw [HD.out];simp [h2]
    clear HD
    subst h2
    go_enter Try.func37,Try.ntmps37
    go_upto_region 1 with (fail)
    go_quiet (fail)
    go_upto_region 3 with (fail)
    obtain ⟨w1,hw1⟩:∃ x,w.drewN nq=x:=⟨_,rfl⟩
    have d5:w1.cell? ⟨p,5,none⟩=some (.int .i64 tk):=by rw [← hw1];exact hc5
    have d6:w1.cell? ⟨p,6,none⟩=some (.int .i64 tk):=by rw [← hw1];exact hc6
    have d7:w1.cell? ⟨p,7,none⟩=some (.bool true):=by rw [← hw1];exact hc7
    have d8:w1.cell? ⟨p,8,none⟩=some (.bool false):=by rw [← hw1];exact hc8
    have HW:Hid (∃ z,w1=w.drewN z):=⟨nq,hw1.symm⟩
    rw [hw1]
    clear hw1 hc5 hc6 hc7 hc8 hc10
    go_quiet (fail)
    go_wp2_with fail
    go_ret
    obtain ⟨z,hz⟩:=HW.out
    exact ⟨rfl,z+nq,by rw [hz,World.drewN_drewN]⟩
   ·obtain rfl:r=0:=by rw [HD.out];simp [h2]
    clear HD
    have h2b:(tk == top)=false:=by simpa using h2
    go_enter Try.func37,Try.ntmps37
    go_upto_region 1 with (fail)
    go_quiet (fail)
    go_upto_region 3 with (fail)
    obtain ⟨w1,hw1⟩:∃ x,w.drewN nq=x:=⟨_,rfl⟩
    have d5:w1.cell? ⟨p,5,none⟩=some (.int .i64 top):=by rw [← hw1];exact hc5
    have d6:w1.cell? ⟨p,6,none⟩=some (.int .i64 tk):=by rw [← hw1];exact hc6
    have d7:w1.cell? ⟨p,7,none⟩=some (.bool true):=by rw [← hw1];exact hc7
    have d8:w1.cell? ⟨p,8,none⟩=some (.bool false):=by rw [← hw1];exact hc8
    have HW:Hid (∃ z,w1=w.drewN z):=⟨nq,hw1.symm⟩
    rw [hw1]
    clear hw1 hc5 hc6 hc7 hc8 hc10
    go_quiet (fail)
    go_wp2_with fail
    go_ret
    obtain ⟨z,hz⟩:=HW.out
    exact ⟨rfl,z+nq,by rw [hz,World.drewN_drewN]⟩
 ·by_cases h1:sure≤tk
  ·obtain rfl:r=2:=by rw [HD.out];simp [h1]
   clear HD
   go_enter Try.func37,Try.ntmps37
   go_upto_region 1 with (fail)
   go_quiet (fail)
   go_wp2_with fail
   go_ret
   exact ⟨rfl,_,rfl⟩
  ·cases en
   ·obtain rfl:r=0:=by rw [HD.out];simp [h1]
    clear HD
    go_enter Try.func37,Try.ntmps37
    go_upto_region 1 with (fail)
    go_quiet (fail)
    go_upto_region 3 with (fail)
    obtain ⟨w1,hw1⟩:∃ x,w.drewN nq=x:=⟨_,rfl⟩
    have d5:w1.cell? ⟨p,5,none⟩=some (.int .i64 top):=by rw [← hw1];exact hc5
    have d6:w1.cell? ⟨p,6,none⟩=some (.int .i64 tk):=by rw [← hw1];exact hc6
    have d7:w1.cell? ⟨p,7,none⟩=some (.bool false):=by rw [← hw1];exact hc7
    have d8:w1.cell? ⟨p,8,none⟩=some (.bool true):=by rw [← hw1];exact hc8
    have HW:Hid (∃ z,w1=w.drewN z):=⟨nq,hw1.symm⟩
    rw [hw1]
    clear hw1 hc5 hc6 hc7 hc8 hc10
    go_quiet (fail)
    go_wp2_with fail
    go_ret
    obtain ⟨z,hz⟩:=HW.out
    exact ⟨rfl,z+nq,by rw [hz,World.drewN_drewN]⟩
   ·obtain rfl:r=0:=by rw [HD.out];simp [h1]
    clear HD
    go_enter Try.func37,Try.ntmps37
    go_upto_region 1 with (fail)
    go_quiet (fail)
    go_upto_region 3 with (fail)
    obtain ⟨w1,hw1⟩:∃ x,w.drewN nq=x:=⟨_,rfl⟩
    have d5:w1.cell? ⟨p,5,none⟩=some (.int .i64 top):=by rw [← hw1];exact hc5
    have d6:w1.cell? ⟨p,6,none⟩=some (.int .i64 tk):=by rw [← hw1];exact hc6
    have d7:w1.cell? ⟨p,7,none⟩=some (.bool true):=by rw [← hw1];exact hc7
    have d8:w1.cell? ⟨p,8,none⟩=some (.bool true):=by rw [← hw1];exact hc8
    have HW:Hid (∃ z,w1=w.drewN z):=⟨nq,hw1.symm⟩
    rw [hw1]
    clear hw1 hc5 hc6 hc7 hc8 hc10
    go_quiet (fail)
    go_wp2_with fail
    go_ret
    obtain ⟨z,hz⟩:=HW.out
    exact ⟨rfl,z+nq,by rw [hz,World.drewN_drewN]⟩
end
end Go.Proofs.Ytoahkffdoaphlaa.Re
