/- Joined texts. Conditions: as each theorem lists them. -/
import Derived.Test.YtoahkffdoaphlaaJWe
set_option linter.unusedSimpArgs false
set_option linter.unusedVariables false
set_option maxRecDepth 100000
set_option maxHeartbeats 80000000
namespace Go.Proofs.Ytoahkffdoaphlaa.Se
open Go Go.RowKit Go.Proofs.Ytoahkffdoaphlaa Go.Proofs.Ytoahkffdoaphlaa.Sp
section
variable {w w':World} {p g:Nat} {F F':List Nat} {v3 v4 v5:Value} {s:St}
theorem Mid.below {W:World} (h:Mid w w' p g F F' v3 v4 v5 s) (hb:Below w'.heap.size w' W):Mid w W p g F F' v3 v4 v5 s :=
 ⟨h.st.below hb,h.kept.trans (Kept.ofBelow [] hb) (fun _ hi=>by simp at hi),h.new,h.far,h.own⟩
theorem Mid.then2 {W:World} {s2:St} (h:Mid w w' p g F F' v3 v4 v5 s) (hg:g<w'.heap.size) (ht:StTo w' W p F' s2):∃ F2 a b c,Mid w W p g F F2 a b c s2∧W.heap[g]?=w'.heap[g]?∧Kept F' w' W∧∀ k ∈ F2,k ∈ F'∨w'.heap.size≤k:=by
 obtain ⟨F2,a,b,c,h1,h2,h3⟩:=ht
 refine ⟨F2,a,b,c,⟨h1,h.kept.trans h2 h.new,fun k hk=>?_,fun hm=>?_,h.own⟩,h2.block g hg h.far,h2,h3⟩
 ·rcases h3 k hk with hx | hx
  ·exact h.new k hx
  ·exact .inr (Nat.le_trans h.kept.size hx)
 ·rcases h3 g hm with hx | hx
  ·exact h.far hx
  ·omega
/-- The frame in its own variable. -/
def FrB (w:World) (g:Nat) (k id off a b note:Int) (fin:Bool) (A:Option Addr) (n c:Nat) (A2:Option Addr) (n2 c2:Nat):Prop :=
 w.heap[g]?=some (.cells #[.int .i64 k,.int .i64 id,.int .i64 off,.int .i64 a,.int .i64 b,.int .i64 note,.bool fin,.slice A n c,.slice A2 n2 c2] 54 (0,0))
theorem FrB.cells {k id off a b note:Int} {fin:Bool} {A A2:Option Addr} {n c n2 c2:Nat} (h:FrB w g k id off a b note fin A n c A2 n2 c2) :
  w.cell? ⟨g,0,none⟩=some (.int .i64 k)∧w.cell? ⟨g,1,none⟩=some (.int .i64 id)∧w.cell? ⟨g,2,none⟩=some (.int .i64 off)∧w.cell? ⟨g,3,none⟩=some (.int .i64 a)∧w.cell? ⟨g,4,none⟩=some (.int .i64 b)∧w.cell? ⟨g,5,none⟩=some (.int .i64 note)∧w.cell? ⟨g,6,none⟩=some (.bool fin)∧w.cell? ⟨g,7,none⟩=some (.slice A n c)∧w.cell? ⟨g,8,none⟩=some (.slice A2 n2 c2) :=
 ⟨cell_slot h rfl,cell_slot h rfl,cell_slot h rfl,cell_slot h rfl,cell_slot h rfl,cell_slot h rfl,cell_slot h rfl,cell_slot h rfl,cell_slot h rfl⟩
theorem acked_st (h:StIn w p F v3 v4 v5 s) (hok:StOk s) (k id off a b note:Int) (fin:Bool) (A:Option Addr) (n c:Nat) (A2:Option Addr) (n2 c2:Nat) (ho:0≤off∧off≤4611686018427387903) (hnn:n≤1099511627776) :
  Calls Try.prog 23 #[.pointer (some ⟨p,0,none⟩),.agg #[.int .i64 k,.int .i64 id,.int .i64 off,.int .i64 a,.int .i64 b,.int .i64 note,.bool fin,.slice A n c,.slice A2 n2 c2]] w fun e w'=>e=.returned (.tuple #[])∧StTo w w' p F (ackS s ⟨k,id,off,b,fin,n⟩):=by
 obtain ⟨g,hg⟩:∃ g,w.heap.size=g:=⟨_,rfl⟩
 obtain ⟨w1,hw1⟩:∃ x,w.alloc (.cells #[.int .i64 k,.int .i64 id,.int .i64 off,.int .i64 a,.int .i64 b,.int .i64 note,.bool fin,.slice A n c,.slice A2 n2 c2] 54)=x:=⟨_,rfl⟩
 have hM:Mid w w1 p g F F v3 v4 v5 s:=by rw [← hg,← hw1];exact mid_new h _
 have hg1:FrB w1 g k id off a b note fin A n c A2 n2 c2:=by rw [← hg,← hw1];exact heap_alloc_new w _
 obtain ⟨hu0,hu1,hu2⟩:=hok.u
 have hlen:=edges_len hok
 have HBY:=Lib.hid (bytes_st hM.st ⟨hu0,hu2⟩ hok.n k id off a b note fin A n c A2 n2 c2 ho hnn)
 have HNW:Hid (∀ (W:World) (F2:List Nat) (a' b' c':Value) (s2:St),StIn W p F2 a' b' c' s2→s2.bs=s.bs→s2.id=s.id→s2.sure=s.sure→Calls Try.prog 58 #[.pointer (some ⟨p,0,none⟩),.agg #[.int .i64 k,.int .i64 id,.int .i64 off,.int .i64 a,.int .i64 b,.int .i64 note,.bool fin,.slice A n c,.slice A2 n2 c2]] W fun e w'=>e=.returned (newsV p (newsS s ⟨k,id,off,b,fin,n⟩))∧Below W.heap.size W w'):=fun W F2 a' b' c' s2 hs e1 e2 e3=>by
  have:=news_st hs (by rw [e1];exact hok.n) k id off a b note fin A n c A2 n2 c2 ho hnn
  have e:newsS s2 ⟨k,id,off,b,fin,n⟩=newsS s ⟨k,id,off,b,fin,n⟩:=by unfold newsS;rw [e1,e2,e3]
  rwa [e] at this
 have HA:Hid (ackS s ⟨k,id,off,b,fin,n⟩=⟨s.l,s.u,s.id,s.bs,turn s.lost (bytesS s ⟨k,id,off,b,fin,n⟩).1 (bytesS s ⟨k,id,off,b,fin,n⟩).2 false,turn s.came (bytesS s ⟨k,id,off,b,fin,n⟩).1 (bytesS s ⟨k,id,off,b,fin,n⟩).2 true,s.fd,if newsS s ⟨k,id,off,b,fin,n⟩=1 then comeN s.fin else s.fin,s.rs,s.code,s.sure,if newsS s ⟨k,id,off,b,fin,n⟩=2 then comeN s.br else s.br⟩):=rfl
 obtain ⟨fr,hfr⟩:∃ x,(bytesS s ⟨k,id,off,b,fin,n⟩).1=x:=⟨_,rfl⟩
 obtain ⟨tz,htz⟩:∃ x,(bytesS s ⟨k,id,off,b,fin,n⟩).2=x:=⟨_,rfl⟩
 rw [hfr,htz] at HBY HA
 obtain ⟨nw,hnw⟩:∃ x,newsS s ⟨k,id,off,b,fin,n⟩=x:=⟨_,rfl⟩
 rw [hnw] at HNW HA
 have hnw3:nw=0∨nw=1∨nw=2:=by rw [← hnw];unfold newsS;split;exact .inl rfl;split;exact .inr (.inl rfl);split;exact .inr (.inr rfl);exact .inl rfl
 have HM:=Lib.hid hM
 have HW:=Lib.hid hw1
 have HGG:=Lib.hid hg
 have HLN:=Lib.hid hlen
 have HG:=Lib.hid hg1
 rw [HA.out]
 obtain ⟨y0,y1,y2,y3,y4,y5,y6,y7,y8⟩:=hg1.cells
 clear h hM hw1 hg1 hg hfr htz hnw hu0 hu1 hu2 hok ho hlen HA
 go_enter Try.func23,Try.ntmps23
 go_wp2_with fail
 rw [HW.out,HGG.out]
 go_wp2_with fail
 refine HBY.out.mono ?_
 rintro e w2 ⟨rfl,hb2⟩
 have HM2:=Lib.hid (HM.out.below hb2)
 have hglt:g<w1.heap.size:=lt_of_block HG.out
 have HG2:Hid (FrB w2 g k id off a b note fin A n c A2 n2 c2):=(hb2.block g hglt).trans HG.out
 clear hb2 y0 y1 y2 y3 y4 y5 y6 y7 y8 hglt
 go_wp2_with fail
 refine (came_add HM2.out.st (by have:=HLN.out;omega) fr tz).mono ?_
 rintro e w3 ⟨rfl,hs3⟩
 obtain ⟨F3,a3,b3,c3,hm3,hg3⟩:=HM2.out.then (lt_of_block HG2.out) hs3
 have HM3:=Lib.hid hm3
 have HG3:Hid (FrB w3 g k id off a b note fin A n c A2 n2 c2):=hg3.trans HG2.out
 clear hs3 hm3 hg3
 go_wp2_with fail
 refine (lost_drop HM3.out.st (by have:=HLN.out;show s.lost.length≤_;omega) fr tz).mono ?_
 rintro e w4 ⟨rfl,hs4⟩
 obtain ⟨F4,a4,b4,c4,hm4,hg4⟩:=HM3.out.then (lt_of_block HG3.out) hs4
 have HM4:=Lib.hid hm4
 have HG4:Hid (FrB w4 g k id off a b note fin A n c A2 n2 c2):=hg4.trans HG3.out
 clear hs4 hm4 hg4
 obtain ⟨y0,y1,y2,y3,y4,y5,y6,y7,y8⟩:=HG4.out.cells
 go_wp2_with fail
 refine (HNW.out w4 _ _ _ _ _ HM4.out.st rfl rfl rfl).mono ?_
 rintro e w5 ⟨rfl,hb5⟩
 have HM5:=Lib.hid (HM4.out.below hb5)
 clear hb5 y0 y1 y2 y3 y4 y5 y6 y7 y8
 rcases hnw3 with rfl | rfl | rfl
 ·simp only [newsV,if_neg (by decide:¬ (0=1)),if_neg (by decide:¬ (0=2))]
  go_wp2_with fail
  go_end0
  exact ⟨rfl,HM5.out.to⟩
 ·simp only [newsV,if_pos rfl]
  go_wp2_with fail
  refine (come_fin HM5.out.st).mono ?_
  rintro e w6 ⟨rfl,hs6,hk6⟩
  have HT:Hid (StTo w w6 p F _):=StTo.trans (s1:=s) HM5.out.kept HM5.out.new ⟨_,_,_,_,hs6,hk6,fun _ hk=>.inl hk⟩
  clear hs6 hk6
  go_wp2_with fail
  go_end0
  exact ⟨rfl,HT.out⟩
 ·simp only [newsV,if_neg (by decide:¬ (2=1)),if_pos rfl]
  go_wp2_with fail
  refine (come_br HM5.out.st).mono ?_
  rintro e w6 ⟨rfl,hs6,hk6⟩
  have HT:Hid (StTo w w6 p F _):=StTo.trans (s1:=s) HM5.out.kept HM5.out.new ⟨_,_,_,_,hs6,hk6,fun _ hk=>.inl hk⟩
  clear hs6 hk6
  go_wp2_with fail
  go_end0
  exact ⟨rfl,HT.out⟩
theorem addAll_snoc (x y:Int):∀ (pre es:List Int),pre.length % 2=0→addAll es (pre ++ [x,y])=turn (addAll es pre) x y true
 | [],es,_=>rfl
 | [_],_,h=>by simp at h
 | a :: b :: r,es,h=>by
   show addAll (turn es a b true) (r ++ [x,y])=turn (addAll (turn es a b true) r) x y true
   exact addAll_snoc x y r _ (by simp at h;omega)
def lostAt (s:St) (gs:List Int) (k:Nat):St:=⟨s.l,s.u,s.id,s.bs,addAll s.lost (gs.take (2 * k)),s.came,s.fd,s.fin,s.rs,s.code,s.sure,s.br⟩
theorem lost_st (h:StIn w p F v3 v4 v5 s) (hok:StOk s) (k id off a b note:Int) (fin:Bool) (A:Option Addr) (n c:Nat) (A2:Option Addr) (n2 c2:Nat) (ho:0≤off∧off≤4611686018427387903) (hnn:n≤1099511627776) :
  Calls Try.prog 21 #[.pointer (some ⟨p,0,none⟩),.agg #[.int .i64 k,.int .i64 id,.int .i64 off,.int .i64 a,.int .i64 b,.int .i64 note,.bool fin,.slice A n c,.slice A2 n2 c2]] w fun e w'=>e=.returned (.tuple #[])∧StTo w w' p F (lostS s ⟨k,id,off,b,fin,n⟩):=by
 obtain ⟨g,hg⟩:∃ g,w.heap.size=g:=⟨_,rfl⟩
 obtain ⟨w1,hw1⟩:∃ x,w.alloc (.cells #[.int .i64 k,.int .i64 id,.int .i64 off,.int .i64 a,.int .i64 b,.int .i64 note,.bool fin,.slice A n c,.slice A2 n2 c2] 54)=x:=⟨_,rfl⟩
 have hM:Mid w w1 p g F F v3 v4 v5 s:=by rw [← hg,← hw1];exact mid_new h _
 have hg1:FrB w1 g k id off a b note fin A n c A2 n2 c2:=by rw [← hg,← hw1];exact heap_alloc_new w _
 obtain ⟨hu0,hu1,hu2⟩:=hok.u
 have hlen:=edges_len hok
 have HBY:=Lib.hid (bytes_st hM.st ⟨hu0,hu2⟩ hok.n k id off a b note fin A n c A2 n2 c2 ho hnn)
 have HNW:Hid (∀ (W:World) (F2:List Nat) (a' b' c':Value) (s2:St),StIn W p F2 a' b' c' s2→s2.bs=s.bs→s2.id=s.id→s2.sure=s.sure→Calls Try.prog 58 #[.pointer (some ⟨p,0,none⟩),.agg #[.int .i64 k,.int .i64 id,.int .i64 off,.int .i64 a,.int .i64 b,.int .i64 note,.bool fin,.slice A n c,.slice A2 n2 c2]] W fun e w'=>e=.returned (newsV p (newsS s ⟨k,id,off,b,fin,n⟩))∧Below W.heap.size W w'):=fun W F2 a' b' c' s2 hs e1 e2 e3=>by
  have:=news_st hs (by rw [e1];exact hok.n) k id off a b note fin A n c A2 n2 c2 ho hnn
  have e:newsS s2 ⟨k,id,off,b,fin,n⟩=newsS s ⟨k,id,off,b,fin,n⟩:=by unfold newsS;rw [e1,e2,e3]
  rwa [e] at this
 have HA:Hid (lostS s ⟨k,id,off,b,fin,n⟩=⟨s.l,s.u,s.id,s.bs,addAll s.lost (gapsF s.came (bytesS s ⟨k,id,off,b,fin,n⟩).1 (bytesS s ⟨k,id,off,b,fin,n⟩).2),s.came,s.fd,if newsS s ⟨k,id,off,b,fin,n⟩=1 then loseN s.fin else s.fin,s.rs,s.code,s.sure,if newsS s ⟨k,id,off,b,fin,n⟩=2 then loseN s.br else s.br⟩):=rfl
 have HGO:=Lib.hid (ok_gaps hok.came (bytesS s ⟨k,id,off,b,fin,n⟩).1 (bytesS s ⟨k,id,off,b,fin,n⟩).2)
 have HGL:=Lib.hid (gaps_le (f:=(bytesS s ⟨k,id,off,b,fin,n⟩).1) hok.cameU hu0 (bytesS_le hok ⟨k,id,off,b,fin,n⟩))
 obtain ⟨fr,hfr⟩:∃ x,(bytesS s ⟨k,id,off,b,fin,n⟩).1=x:=⟨_,rfl⟩
 obtain ⟨tz,htz⟩:∃ x,(bytesS s ⟨k,id,off,b,fin,n⟩).2=x:=⟨_,rfl⟩
 rw [hfr,htz] at HBY HA HGO HGL
 obtain ⟨nw,hnw⟩:∃ x,newsS s ⟨k,id,off,b,fin,n⟩=x:=⟨_,rfl⟩
 rw [hnw] at HNW HA
 have hnw3:nw=0∨nw=1∨nw=2:=by rw [← hnw];unfold newsS;split;exact .inl rfl;split;exact .inr (.inl rfl);split;exact .inr (.inr rfl);exact .inl rfl
 obtain ⟨gs,hgs⟩:∃ x,gapsF s.came fr tz=x:=⟨_,rfl⟩
 rw [hgs] at HA HGO HGL
 have HGS:=Lib.hid hgs
 obtain ⟨m,hm⟩:∃ m,Hid (gs.length=2 * m):=⟨gs.length / 2,by have:=HGO.out.2.1;show _=_;omega⟩
 have HMB:Hid (m≤2001):=by
  have h1:=small_len HGO.out 4000 fun e he=>by have:=HGL.out e he;have:=hok.n;omega
  have:=hm.out
  show _≤_
  omega
 have HADD:Hid (∀ j,(addAll s.lost (gs.take j)).length≤4001):=fun j=>by
  refine small_len (addAll_ok _ _ hok.lost) 4000 fun e he=>?_
  have:=addAll_le hu0 _ _ hok.lostU (fun e he=>HGL.out e (List.mem_of_mem_take he)) e he
  have:=hok.n
  omega
 have HM:=Lib.hid hM
 have HW:=Lib.hid hw1
 have HGG:=Lib.hid hg
 have HLN:=Lib.hid hlen
 have HG:=Lib.hid hg1
 rw [HA.out]
 obtain ⟨y0,y1,y2,y3,y4,y5,y6,y7,y8⟩:=hg1.cells
 clear h hM hw1 hg1 hg hfr htz hnw hu0 hu1 hu2 hok ho hlen HA hgs
 go_enter Try.func21,Try.ntmps21
 go_wp2_with fail
 rw [HW.out,HGG.out]
 go_wp2_with fail
 refine HBY.out.mono ?_
 rintro e w2 ⟨rfl,hb2⟩
 have HM2:=Lib.hid (HM.out.below hb2)
 have hglt:g<w1.heap.size:=lt_of_block HG.out
 have HG2:Hid (FrB w2 g k id off a b note fin A n c A2 n2 c2):=(hb2.block g hglt).trans HG.out
 clear hb2 y0 y1 y2 y3 y4 y5 y6 y7 y8 hglt
 go_wp2_with fail
 refine (came_gaps HM2.out.st (by have:=HLN.out;omega) fr tz).mono ?_
 rintro e w3 ⟨v6,rfl,ho6,hb3⟩
 rw [HGS.out,show gs.length / 2=m by have:=hm.out;omega] at ho6
 have HM3:=Lib.hid (HM2.out.below hb3)
 have HG3:Hid (FrB w3 g k id off a b note fin A n c A2 n2 c2):=(hb3.block g (lt_of_block HG2.out)).trans HG2.out
 obtain ⟨A6,c6,e6,hc6,_,_,hrd6⟩:=own_form ho6
 subst e6
 have HR:Hid (Rd w3 w3.heap.size A6 (m * 2) (ints gs)):=hrd6
 have HF6:Hid (∀ a,A6=some a→w2.heap.size≤a.block):=fun a ea=>own_from ho6 a ea
 have hmc:(m:Int)≤(c6:Int):=by omega
 have hmb:(m:Int)≤2001:=by have:=HMB.out;omega
 have HM3':Hid (∃ F' a' b' c',Mid w w3 p g F F' a' b' c' (lostAt s gs 0)∧FrB w3 g k id off a b note fin A n c A2 n2 c2∧Rd w3 w3.heap.size A6 (m * 2) (ints gs)∧(∀ a,A6=some a→a.block ∉ F')):=⟨F,v3,v4,v5,HM3.out,HG3.out,HR.out,fun a ea hm=>by have:=HF6.out a ea;have:=HM2.out.st.hF _ hm;omega⟩
 clear hrd6 hc6 ho6 hb3 HM3 HG3 HR HF6
 go_wp2_with fail
 go_loopw [22,7] (fun i _ wr=>∃ j:Nat,j≤m∧i=.int .i64 j∧Hid (∃ F' a' b' c',Mid w wr p g F F' a' b' c' (lostAt s gs j)∧FrB wr g k id off a b note fin A n c A2 n2 c2∧Rd wr wr.heap.size A6 (m * 2) (ints gs)∧(∀ a,A6=some a→a.block ∉ F'))) (fun i _ _=>m - (intOf i).toNat)
 case atStart=>exact ⟨0,Nat.zero_le _,rfl,HM3'⟩
 case round =>
  clear HM3'
  obtain ⟨j,hj,rfl,HK⟩:=hrel
  by_cases hlt:j<m
  ·have hlti:(j:Int)<(m:Int):=by omega
   obtain ⟨Fj,aj,bj,cj,hMj,hGj,hRj,hAj⟩:=HK.out
   obtain ⟨bb,oo,hA,hbn,hcs⟩:=hRj.2 (by omega)
   subst hA
   have hl1:2 * j+1<gs.length:=by have:=hm.out;omega
   obtain ⟨x,hx⟩:∃ x,Hid (gs.getD (2 * j) 0=x):=⟨_,rfl⟩
   obtain ⟨y,hy⟩:∃ y,Hid (gs.getD (2 * j+1) 0=y):=⟨_,rfl⟩
   have hcx:wr.cell? ⟨bb,oo+j * 2,none⟩=some (.int .i64 x):=by
    rw [show oo+j * 2=oo+2 * j by omega,hcs (2 * j) _ (ints_get gs _ (by omega)),hx.out]
   have hcy:wr.cell? ⟨bb,oo+j * 2+1,none⟩=some (.int .i64 y):=by
    rw [show oo+j * 2+1=oo+(2 * j+1) by omega,hcs (2 * j+1) _ (ints_get gs _ (by omega)),hy.out]
   have HSN:Hid (addAll s.lost (gs.take (2 * (j+1)))=turn (addAll s.lost (gs.take (2 * j))) x y true):=by
    show _=_
    rw [take_pair gs j hl1,hx.out,hy.out]
    exact addAll_snoc _ _ _ _ (by rw [List.length_take];omega)
   have HMj:=Lib.hid hMj
   have HGj:=Lib.hid hGj
   have HRj:=Lib.hid hRj
   have HAj:=Lib.hid hAj
   have nx:=World.new_ne wr _ hcx
   clear hMj hGj hRj hAj hcs HK
   go_wp2_with fail
   refine still_tail 7 (by kernel_rfl) (by kernel_rfl) ?_
   intro wz hwz
   have hba:Below wr.heap.size wr wz:=by rw [hwz];exact ((Below.refl _ _).alloc (Nat.le_refl _) _).drew
   have hq:wz.heap[wr.heap.size]?=some (.cells #[.int .i64 x,.int .i64 y] 88 (0,0)):=by rw [hwz];exact heap_alloc_new wr _
   have z0:wz.cell? ⟨wr.heap.size,0,none⟩=some (.int .i64 x):=cell_slot hq rfl
   have z1:wz.cell? ⟨wr.heap.size,1,none⟩=some (.int .i64 y):=cell_slot hq rfl
   have HMZ:=Lib.hid (HMj.out.below hba)
   have HGZ:Hid (FrB wz g k id off a b note fin A n c A2 n2 c2):=(hba.block g (lt_of_block HGj.out)).trans HGj.out
   have HRZ:=Lib.hid ((HRj.out.below hba (Nat.le_refl _)).more hba.size)
   have hkz:wz.heap.size=wr.heap.size+1:=by rw [hwz];simp
   clear hwz hcx hcy hba hq nx hkz
   simp only [List.take_succ_cons,List.take_zero,List.drop_succ_cons,List.drop_zero]
   iterate 7 still_step
   refine wpStill_nil ?_
   go_wp2_with fail
   refine (lost_add HMZ.out.st (by show (addAll s.lost (gs.take (2 * j))).length≤_;have:=HADD.out (2 * j);omega) x y).mono ?_
   rintro e w4 ⟨rfl,hs4⟩
   obtain ⟨F4,a4,b4,c4,hm4,hg4,hk4,hF4⟩:=HMZ.out.then2 (lt_of_block HGZ.out) hs4
   have HN:Hid (∃ F' a' b' c',Mid w w4 p g F F' a' b' c' (lostAt s gs (j+1))∧FrB w4 g k id off a b note fin A n c A2 n2 c2∧Rd w4 w4.heap.size (some ⟨bb,oo,none⟩) (m * 2) (ints gs)∧(∀ a,some (⟨bb,oo,none⟩:Addr)=some a→a.block ∉ F')):=by
    refine ⟨F4,a4,b4,c4,?_,hg4.trans HGZ.out,rd_kept HRZ.out hk4 fun _ a ea=>HAj.out a ea,fun a ea hm=>?_⟩
    ·show Mid _ _ _ _ _ _ _ _ _ ⟨s.l,s.u,s.id,s.bs,addAll s.lost (gs.take (2 * (j+1))),s.came,s.fd,s.fin,s.rs,s.code,s.sure,s.br⟩
     rw [HSN.out]
     exact hm4
    ·rcases hF4 _ hm with hx | hx
     ·exact HAj.out a ea hx
     ·cases ea;have:bb<wz.heap.size:=by have:=HRZ.out.2 (by omega);obtain ⟨b',o',e',hb',_⟩:=this;cases e';exact hb'
      exact absurd hx (by show ¬ _≤bb;omega)
   clear hs4 hm4 hg4 z0 z1 hk4 hF4
   go_wp2_with fail
   go_roundw
   case rel=>exact ⟨j+1,by omega,by go_num,HN⟩
   case measure=>simp [intOf];omega
  ·have hlti:¬ (j:Int)<(m:Int):=by omega
   obtain rfl:j=m:=by omega
   obtain ⟨Fj,aj,bj,cj,hMj,hGj,_,_⟩:=HK.out
   have HMj:=Lib.hid hMj
   have HEG:Hid (gs.take (2 * j)=gs):=List.take_of_length_le (by rw [hm.out];exact Nat.le_refl _)
   obtain ⟨y0,y1,y2,y3,y4,y5,y6,y7,y8⟩:=FrB.cells hGj
   clear hMj hGj HK
   go_wp2_with fail
   refine (HNW.out wr _ _ _ _ _ HMj.out.st rfl rfl rfl).mono ?_
   rintro e w5 ⟨rfl,hb5⟩
   have HM5:=Lib.hid (HMj.out.below hb5)
   unfold lostAt at HM5
   rw [HEG.out] at HM5
   clear hb5 y0 y1 y2 y3 y4 y5 y6 y7 y8 HMj
   rcases hnw3 with rfl | rfl | rfl
   ·simp only [newsV,if_neg (by decide:¬ (0=1)),if_neg (by decide:¬ (0=2))]
    go_wp2_with fail
    go_end0
    exact ⟨rfl,HM5.out.to⟩
   ·simp only [newsV,if_pos rfl]
    go_wp2_with fail
    refine (lose_fin HM5.out.st).mono ?_
    rintro e w6 ⟨rfl,hs6,hk6⟩
    have HT:Hid (StTo w w6 p F _):=StTo.trans (s1:=s) HM5.out.kept HM5.out.new ⟨_,_,_,_,hs6,hk6,fun _ hk=>.inl hk⟩
    clear hs6 hk6
    go_wp2_with fail
    go_end0
    exact ⟨rfl,HT.out⟩
   ·simp only [newsV,if_neg (by decide:¬ (2=1)),if_pos rfl]
    go_wp2_with fail
    refine (lose_br HM5.out.st).mono ?_
    rintro e w6 ⟨rfl,hs6,hk6⟩
    have HT:Hid (StTo w w6 p F _):=StTo.trans (s1:=s) HM5.out.kept HM5.out.new ⟨_,_,_,_,hs6,hk6,fun _ hk=>.inl hk⟩
    clear hs6 hk6
    go_wp2_with fail
    go_end0
    exact ⟨rfl,HT.out⟩
end
end Go.Proofs.Ytoahkffdoaphlaa.Se
