/- Joined texts. Conditions: as each theorem lists them. -/
import Derived.Test.YtoahkffdoaphlaaJPe
set_option linter.unusedSimpArgs false
set_option linter.unusedVariables false
set_option maxRecDepth 100000
set_option maxHeartbeats 80000000
namespace Go.Proofs.Ytoahkffdoaphlaa.Re
open Go Go.RowKit Go.Proofs.Ytoahkffdoaphlaa Go.Proofs.Ytoahkffdoaphlaa.Sp Go.Proofs.Ytoahkffdoaphlaa.Sp.Ref Go.Proofs.Ytoahkffdoaphlaa.Se Go.Maps
def withE (r:Rq) (e:Int):Rq:=⟨r.es,r.rm,r.rd,r.tl,r.bl,r.top,r.en,r.code,r.sure,r.br,e,r.ov⟩
def withO (r:Rq) (e:Int):Rq:=⟨r.es,r.rm,r.rd,r.tl,r.bl,r.top,r.en,r.code,r.sure,r.br,r.tk,e⟩
def lenV:Value→Nat
 | .slice _ n _=>n
 | _=>0
def toR (r:Rq) (most:Int):Int:=min (if r.br then min (firstF r.es (max r.tk 0)) (max r.sure r.tk) else firstF r.es (max r.tk 0)) (r.tk+min (max most 0) 1048576)
/-- What stands at a round of Take: k bytes were taken. -/
def RTakeJ (w wr:World) (q:Nat) (G:List Nat) (r:Rq) (t k:Nat) (v8:Value):Prop:=∃ G1 u0 u4,RvIn wr q G1 u0 u4 (withE r ((t+k:Nat):Int))∧Kept G w wr∧(∀ x ∈ G1,x ∈ G∨w.heap.size≤x)∧wr.ownsRow w.heap.size 5 1 v8 k (bv ((r.bl.drop t).take k))∧∀ x ∈ fp v8,x ∉ G1
section
variable {w w':World} {q:Nat} {F G:List Nat} {v0 v4 v:Value} {r r':Rq}
theorem RvIn.eaten (h:RvIn w q G v0 v4 r) (e:Int):RvIn (w.setCell ⟨q,10,none⟩ (.int .i64 e)) q G v0 v4 (withE r e):=h.put (withE r e) 10 _ rfl rfl rfl
theorem RvIn.overed (h:RvIn w q G v0 v4 r) (e:Int):RvIn (w.setCell ⟨q,11,none⟩ (.int .i64 e)) q G v0 v4 (withO r e):=h.put (withO r e) 11 _ rfl rfl rfl
theorem rtake_rv (h:RvIn w q G v0 v4 r) (hes:r.es.length≤4398046511000) (hrd:0≤r.rd∧r.rd≤4611686018427387904) (most:Int) (t m:Nat) (ht:r.tk=(t:Int)) (hm:toR r most=((t+m:Nat):Int)) (hlen:t+m≤r.bl.length) (hbl:r.bl.length≤225000000000000) (hm1:m≤1048576) :
  Calls Try.prog 36 #[.pointer (some ⟨q,0,none⟩),.int .i64 most] w fun e w'=>∃ A c G' u0 u4 r2,r2=withE (withG r (r.rd+Cr.eatF m) r.tl) ((t+m:Nat):Int)∧e=.returned (.tuple #[.slice A m c,.int .i64 (overR r2),.int .i64 (if overR r2=2 then r.code else 0)])∧RvIn w' q G' u0 u4 (withO r2 (overR r2))∧Goes w w' G G'∧m≤c∧RowO w' G' A ((r.bl.drop t).take m):=by
 obtain ⟨_,_,_,_,_,_,_,_,hc8,hc9,hc10,_⟩:=h.cells
 obtain ⟨i0,hi,hz0,hz1,hz2⟩:=info_parts infoB
 have HI0:=Lib.hid (And.intro hi (And.intro hz0 (And.intro hz1 hz2)))
 have HFI:Hid (∀ n,Calls Try.prog 83 #[.pointer (some ⟨q,0,none⟩),.int .i64 (t:Int)] (w.drewN n) fun e w'=>e=.returned (.int .i64 (firstF r.es (t:Int)))∧w'=w.drewN n):=fun n=>by
  have:=rfirst_rv (h.drewN n) (by omega) (t:Int)
  rw [show max (t:Int) 0=(t:Int) by omega] at this
  exact this
 have HWI:=Lib.hid (fun W=>Cr.rwithin_any most 0 1048576 (by omega) W)
 obtain ⟨wi,hwi⟩:∃ x,min (max most 0) 1048576=x:=⟨_,rfl⟩
 obtain ⟨fi,hfi⟩:∃ x,firstF r.es (t:Int)=x:=⟨_,rfl⟩
 obtain ⟨br,hbr⟩:∃ x,r.br=x:=⟨_,rfl⟩
 obtain ⟨su,hsu⟩:∃ x,r.sure=x:=⟨_,rfl⟩
 have hm2:min (if br=true then min fi (max su (t:Int)) else fi) ((t:Int)+wi)=((t+m:Nat):Int):=by
  rw [← hm];unfold toR;rw [ht,show max (t:Int) 0=(t:Int) by omega,hwi,hfi,hbr,hsu]
 rw [hwi] at HWI
 rw [hfi] at HFI
 rw [hsu] at hc8
 rw [hbr] at hc9
 rw [ht] at hc10
 have hws:IntKind.i64.wrap ((t:Int)+wi)=(t:Int)+wi:=IntWalk.i64_in _ (by omega)
 obtain ⟨tm,htm⟩:∃ x:Int,((t+m:Nat):Int)=x:=⟨_,rfl⟩
 rw [htm] at hm2
 have HTM:=Lib.hid htm
 have HJ0:Hid (RTakeJ w w q G r t 0 (.slice none 0 0)):=by
  refine ⟨G,v0,v4,?_,Kept.refl _ _,fun _ hk=>.inl hk,own_nil _ _ _ _,fun x hx=>by simp [fp] at hx⟩
  have e:withE r ((t+0:Nat):Int)=r:=by unfold withE;rw [Nat.add_zero,← ht]
  rw [e];exact h
 have HJQ:Hid (∀ n,RTakeJ w (w.drewN n) q G r t 0 (.slice none 0 0)):=fun n=>by
  obtain ⟨G1,u0,u4,k1,k2,k3,k4,k5⟩:=HJ0.out
  exact ⟨G1,u0,u4,k1.drewN n,k2.drewN n,k3,own_below k4 (Below.drewN' _ _ _),k5⟩
 have HRD:=Lib.hid hrd
 have HES:=Lib.hid hes
 have HLEN:=Lib.hid hlen
 have HBL:=Lib.hid hbl
 have HM1:=Lib.hid hm1
 clear h ht hm hlen hbl hrd hes htm hfi hwi hbr hsu hi hz0 hz1 hz2 HJ0
 cases br
 ·skip
  go_enter Try.func36,Try.ntmps36
  go_upto_region 1 with (fail)
  go_quiet ((go_at_call 83;exact Calls.quiet_of_same (HFI.out _)))
  obtain ⟨w1,hw1⟩:∃ x,w.drewN nq=x:=⟨_,rfl⟩
  have HW1:Hid (∃ z,w1=w.drewN z):=⟨nq,hw1.symm⟩
  have d8:w1.cell? ⟨q,8,none⟩=some (.int .i64 su):=by rw [← hw1];exact hc8
  have d9:w1.cell? ⟨q,9,none⟩=some (.bool false):=by rw [← hw1];exact hc9
  have d10:w1.cell? ⟨q,10,none⟩=some (.int .i64 (t:Int)):=by rw [← hw1];exact hc10
  rw [hw1]
  clear hw1 hc8 hc9 hc10
  have HW2:=HW1
  clear d8
  go_upto_region 4 with (fail)
  go_quiet ((go_at_call 84;exact Calls.quiet_of_same (HWI.out _)))
  obtain ⟨w3,hw3⟩:∃ x,w1.drewN nq=x:=⟨_,rfl⟩
  have HJ0:Hid (RTakeJ w w3 q G r t 0 (.slice none 0 0)):=by obtain ⟨z,hz⟩:=HW2.out;rw [← hw3,hz,World.drewN_drewN];exact HJQ.out _
  rw [hw3]
  clear hw3 HW1 HW2 HJQ HFI HWI d9 d10
  have hm3:min fi ((t:Int)+wi)=tm:=by simpa using hm2
  go_wp2_with fail
  go_loopw [8] (fun v wr=>∃ k:Nat,k≤m∧Hid (lenV v=k)∧Hid (RTakeJ w wr q G r t k v)) (fun v _=>m - lenV v)
  case atStart=>exact ⟨0,Nat.zero_le _,rfl,HJ0.out⟩
  case round =>
   clear HJ0
   obtain ⟨k,hk,HLV,HJ⟩:=hrel
   obtain ⟨G1,u0,u4,h1,hk1,hn1,ho1,hf1⟩:=HJ.out
   obtain ⟨A8,c8,e8,hc8,_⟩:=own_form ho1
   subst e8
   obtain ⟨A4,c4,e4,hcc4,_,_,hrd4⟩:=own_form h1.row
   obtain ⟨n4,hn4⟩:∃ z,(withE r ((t+k:Nat):Int)).bl.length=z:=⟨_,rfl⟩
   rw [hn4] at e4 hcc4 hrd4
   subst e4
   have HN4:Hid (n4=r.bl.length):=hn4.symm
   obtain ⟨tk,htk⟩:∃ z:Int,((t+k:Nat):Int)=z:=⟨_,rfl⟩
   have g10:=h1.cells.2.2.2.2.2.2.2.2.2.2.1
   have g4:=h1.cells.2.2.2.2.1
   have g10':wr.cell? ⟨q,10,none⟩=some (.int .i64 tk):=by rw [← htk];exact g10
   have f10:=h1.free 10
   have H1:=Lib.hid h1
   have HK1:=Lib.hid hk1
   have HN1:=Lib.hid hn1
   have HO1:=Lib.hid ho1
   have HF1:=Lib.hid hf1
   have HRW:=Lib.hid hrd4
   have HTK:=Lib.hid htk
   clear h1 hk1 hn1 ho1 hf1 HJ hrd4 hn4 g10 htk
   by_cases hlt:k<m
   ·have hltI:tk<tm:=by have:=HTK.out;have:=HTM.out;omega
    have HLT:Hid (k+1≤m):=hlt
    obtain ⟨b4,o4,hA4,hb4,hcs⟩:=HRW.out.2 (by have:=HLEN.out;have:=HN4.out;omega)
    subst hA4
    obtain ⟨x,hx⟩:∃ x,r.bl.getD (t+k) 0=x:=⟨_,rfl⟩
    have hbx:wr.cell? ⟨b4,o4+(t+k),none⟩=some (.int .u8 (x:Int)):=by
     refine hcs (t+k) _ ?_
     have hl:t+k<r.bl.length:=by have:=HLEN.out;omega
     show (bv r.bl)[t+k]?=_
     unfold bv
     rw [List.getElem?_map,List.getElem?_eq_getElem hl,← hx,List.getD_eq_getElem?_getD,List.getElem?_eq_getElem hl]
     rfl
    have HXX:=Lib.hid hx
    have hn4I:(n4:Int)≤225000000000000:=by have:=HN4.out;have:=HBL.out;omega
    have hlt4:tk<(n4:Int):=by have:=HTK.out;have:=HN4.out;have:=HLEN.out;omega
    have htk0:0≤tk:=by have:=HTK.out;omega
    have htn:tk.toNat=t+k:=by have:=HTK.out;omega
    have hwt:IntKind.i64.wrap (tk+1)=tk+1:=IntWalk.i64_in _ (by omega)
    have HS:Hid (∀ W,Below wr.heap.size wr W→(fun W:World=>W.cell? ⟨q,4,none⟩=some (.slice (some ⟨b4,o4,none⟩) n4 c4)∧W.cell? ⟨q,10,none⟩=some (.int .i64 tk)∧W.cell? ⟨b4,o4+(t+k),none⟩=some (.int .u8 (x:Int))) W):=fun W hW=>⟨(hW.cell (p:=⟨q,4,none⟩) (H1.out.hG q H1.out.pG)).trans g4,(hW.cell (p:=⟨q,10,none⟩) (H1.out.hG q H1.out.pG)).trans g10',(hW.cell (p:=⟨b4,o4+(t+k),none⟩) hb4).trans hbx⟩
    have HMX:Hid (k+1≤maxLen∧(k+1) * 1≤140737488355328):=⟨by unfold maxLen;have:=HM1.out;have:=HLT.out;omega,by have:=HM1.out;have:=HLT.out;omega⟩
    clear hcs hx g4
    go_upto_region 7 with (fail)
    refine wp_region_held_drew (S:=(fun W:World=>W.cell? ⟨q,4,none⟩=some (.slice (some ⟨b4,o4,none⟩) n4 c4)∧W.cell? ⟨q,10,none⟩=some (.int .i64 tk)∧W.cell? ⟨b4,o4+(t+k),none⟩=some (.int .u8 (x:Int)))) (by kernel_rfl) ?_ (fun hHeld=>?_)
    ·exact (HS.out _ ((Below.refl _ _).drew))
    refine wpAnyH_take (i:=0) (v:=?_) rfl (by kernel_rfl) (by kernel_rfl) (by kernel_rfl) (fun _ _ _ h=>h) (Or.inl ⟨by rfl,?_⟩) (by assumption) ?_
    rotate_left
    ·intro w hSw;(try dsimp only at hSw);go_simp;try with_reducible rfl
    go_simp
    refine wpAnyH_take (i:=1) (v:=?_) rfl (by kernel_rfl) (by kernel_rfl) (by kernel_rfl) (fun _ _ _ h=>h) (Or.inl ⟨by rfl,?_⟩) (by assumption) ?_
    rotate_left
    ·intro w hSw;(try dsimp only at hSw);go_simp;try with_reducible rfl
    go_simp
    refine wpAnyH_take (i:=2) (v:=?_) rfl (by kernel_rfl) (by kernel_rfl) (by kernel_rfl) (fun _ _ _ h=>h) (Or.inl ⟨by rfl,?_⟩) (by assumption) ?_
    rotate_left
    ·intro w hSw;(try dsimp only at hSw);go_simp;try with_reducible rfl
    go_simp
    refine wpAnyH_take (i:=3) (v:=?_) rfl (by kernel_rfl) (by kernel_rfl) (by kernel_rfl) (fun _ _ _ h=>h) (Or.inl ⟨by rfl,?_⟩) (by assumption) ?_
    rotate_left
    ·intro w hSw;(try dsimp only at hSw);go_simp;try with_reducible rfl
    go_simp
    refine wpAnyH_take (i:=4) (v:=?_) rfl (by kernel_rfl) (by kernel_rfl) (by kernel_rfl) (fun _ _ _ h=>h) (Or.inl ⟨by rfl,?_⟩) (by assumption) ?_
    rotate_left
    ·intro w hSw;(try dsimp only at hSw);go_simp;try with_reducible rfl
    go_simp
    refine wpAnyH_take (i:=5) (v:=?_) rfl (by kernel_rfl) (by kernel_rfl) (by kernel_rfl) (fun _ _ _ h=>h) (Or.inl ⟨by rfl,?_⟩) (by assumption) ?_
    rotate_left
    ·intro w hSw;(try dsimp only at hSw);go_simp;try with_reducible rfl
    go_simp
    refine wpAnyH_take (i:=6) (v:=?_) rfl (by kernel_rfl) (by kernel_rfl) (by kernel_rfl) (fun _ _ _ h=>h) (Or.inl ⟨by rfl,?_⟩) (by assumption) ?_
    rotate_left
    ·intro w hSw;(try dsimp only at hSw);go_simp;try with_reducible rfl
    go_simp
    refine wpAnyH_take (i:=7) (v:=?_) rfl (by kernel_rfl) (by kernel_rfl) (by kernel_rfl) (fun _ _ _ h=>h) (Or.inl ⟨by rfl,?_⟩) (by assumption) ?_
    rotate_left
    ·intro w hSw;(try dsimp only at hSw);go_simp;try with_reducible rfl
    go_simp
    refine wpAnyH_take (i:=8) (v:=?_) rfl (by kernel_rfl) (by kernel_rfl) (by kernel_rfl) (fun _ _ _ h=>h) (Or.inl ⟨by rfl,?_⟩) (by assumption) ?_
    rotate_left
    ·intro w hSw;(try dsimp only at hSw);go_simp;try with_reducible rfl
    go_simp
    refine wpAnyH_take (i:=9) (v:=?_) rfl (by kernel_rfl) (by kernel_rfl) (by kernel_rfl) (fun _ _ _ h=>h) (Or.inl ⟨by rfl,?_⟩) (by assumption) ?_
    rotate_left
    ·intro w hSw;(try dsimp only at hSw);go_simp;try with_reducible rfl
    go_simp
    refine wpAnyH_take (i:=10) (v:=?_) rfl (by kernel_rfl) (by kernel_rfl) (by kernel_rfl) (fun _ _ _ h=>h) (Or.inl ⟨by rfl,?_⟩) (by assumption) ?_
    rotate_left
    ·intro w hSw;(try dsimp only at hSw);go_simp;try with_reducible rfl
    go_simp
    refine wpAnyH_ready (rs:=[11]) (by kernel_rfl) (by simp) ?_
    refine AllReadyH.cons rfl (fun K hK=>?_) AllReadyH.nil
    go_simp
    have HBW:Hid (Below wr.heap.size wr (wr.drew.alloc (.cells #[.int .u8 (x:Int)] 5))):=((Below.refl _ _).drew).alloc (Nat.le_refl _) _
    refine hK.out _ _ ?_ (fun hHeld=>?_)
    ·exact HS.out _ HBW.out
    clear hK K
    go_simp
    refine wpAnyH_ready (rs:=[12]) (by kernel_rfl) (by simp) ?_
    refine AllReadyH.cons rfl (fun K hK=>?_) AllReadyH.nil
    have HOA:Hid ((wr.drew.alloc (.cells #[.int .u8 (x:Int)] 5)).ownsRow w.heap.size 5 1 (.slice A8 k c8) k (bv ((r.bl.drop t).take k))):=own_below HO1.out HBW.out
    have HDA:Hid (Rd (wr.drew.alloc (.cells #[.int .u8 (x:Int)] 5)) (wr.heap.size+1) (some ⟨wr.heap.size,0,none⟩) (1 * 1) (bv [x])):=rd_new _ _ _ _ _ _ _ rfl (by show wr.heap.size<_;omega) rfl rfl
    have HBA:Hid (w.heap.size≤(wr.drew.alloc (.cells #[.int .u8 (x:Int)] 5)).heap.size):=Nat.le_trans HK1.out.size HBW.out.size
    refine step_own_at rfl (.tmp 47) (.tmp 58) 30 rfl w.heap.size 5 i0 (.int .u8 0) 1 1 Try.underlying30 HI0.out.1 HI0.out.2.1 HI0.out.2.2.1 HI0.out.2.2.2 rfl (by decide) (.slice A8 k c8) k (bv ((r.bl.drop t).take k)) (by simp [Act.eval,Act.put]) HOA.out (wr.heap.size+1) (some ⟨wr.heap.size,0,none⟩) 1 1 (bv [x]) (by simp [Act.eval,Act.put]) HDA.out (ones_bv _) HMX.out.1 HMX.out.2 HBA.out ?_
    intro v6 w6 ho6 hg6 hn6
    have HKA:Hid (Kept (fp (.slice A8 k c8)) wr w6):=⟨hg6.os.trans HBW.out.os,hg6.tape.trans HBW.out.tape,hg6.output.trans HBW.out.output,Nat.le_trans HBW.out.size hg6.size,fun z hz hm=>(hg6.block z (Nat.lt_of_lt_of_le hz HBW.out.size) (fun e=>hm (fp_own.2 e.symm))).trans (HBW.out.block z hz)⟩
    have HNV:Hid (∀ z ∈ fp v6,z ∈ fp (.slice A8 k c8)∨wr.heap.size≤z):=fun z hz=>(hn6 z hz).imp id (fun e=>by rw [e];exact HBW.out.size)
    have HO6:=Lib.hid ho6
    obtain ⟨A6,c6,e6,_⟩:=own_form ho6
    subst e6
    have H6:Hid (RvIn w6 q G1 u0 (.slice (some ⟨b4,o4,none⟩) n4 c4) (withE r ((t+k:Nat):Int))):=H1.out.kept HKA.out (fun z hz hm=>HF1.out z hm hz)
    have HSW:Hid ((fun W:World=>W.cell? ⟨q,4,none⟩=some (.slice (some ⟨b4,o4,none⟩) n4 c4)∧W.cell? ⟨q,10,none⟩=some (.int .i64 tk)∧W.cell? ⟨b4,o4+(t+k),none⟩=some (.int .u8 (x:Int))) w6):=⟨H6.out.cells.2.2.2.2.1,by
     have:=H6.out.cells.2.2.2.2.2.2.2.2.2.2.1
     rw [show (withE r ((t+k:Nat):Int)).tk=tk from HTK.out] at this
     exact this,(World.cell?_of_block (a:=⟨b4,o4+(t+k),none⟩) (HKA.out.block b4 hb4 (fun hm=>HF1.out b4 hm (H1.out.g4 b4 (by simp [fp]))))).trans hbx⟩
    clear ho6 hg6 hn6 HOA HDA HBA
    refine hK.out _ _ ?_ (fun hHeld=>?_)
    ·exact HSW.out
    clear hK K
    go_simp
    refine wpAnyH_take (i:=13) (v:=?_) rfl (by kernel_rfl) (by kernel_rfl) (by kernel_rfl) (fun _ _ _ h=>h) (Or.inl ⟨by rfl,?_⟩) (by assumption) ?_
    rotate_left
    ·intro w hSw;(try dsimp only at hSw);go_simp;try with_reducible rfl
    go_simp
    refine wpAnyH_done (by kernel_rfl) ?_ _
    obtain ⟨w7,hw7⟩:∃ z,w6.setCell ⟨q,10,none⟩ (.int .i64 (tk+1))=z:=⟨_,rfl⟩
    have f6:=H6.out.free 10
    have c6':=H6.out.cells.2.2.2.2.2.2.2.2.2.2.1
    rw [show (withE r ((t+k:Nat):Int)).tk=tk from HTK.out] at c6'
    have HJ7:Hid (RTakeJ w w7 q G r t (k+1) (.slice A6 (k+1) c6)):=by
     rw [← hw7]
     have e1:tk+1=((t+(k+1):Nat):Int):=by have:=HTK.out;omega
     have k1:=H6.out.eaten (tk+1)
     have e2:withE (withE r ((t+k:Nat):Int)) (tk+1)=withE r ((t+(k+1):Nat):Int):=by unfold withE;rw [e1]
     rw [e2] at k1
     have kk:Kept [q] w6 (w6.setCell ⟨q,10,none⟩ (.int .i64 (tk+1))):=kept_put w6 (by simp) 10 _
     have e3:bv ((r.bl.drop t).take k) ++ bv [x]=bv ((r.bl.drop t).take (k+1)):=by
      rw [← bv_app]
      congr 1
      have hl:k<(r.bl.drop t).length:=by rw [List.length_drop];have:=HLEN.out;have:=HLT.out;omega
      rw [List.take_succ_eq_append_getElem hl,List.getElem_drop]
      congr 2
      rw [← HXX.out,List.getD_eq_getElem?_getD,List.getElem?_eq_getElem (show t+k<r.bl.length by have:=HLEN.out;have:=HLT.out;omega)]
      rfl
     have ko:=HO6.out
     rw [e3] at ko
     have hqv:∀ z ∈ fp (.slice A6 (k+1) c6),z ∉ G1:=fun z hz hm=>(HNV.out z hz).elim (fun h2=>HF1.out z h2 hm) (fun h2=>by have:=H1.out.hG z hm;omega)
     refine ⟨G1,u0,_,k1,?_,HN1.out,own_kept ko kk (fun z hz hm=>hqv z hz (by simp at hm;exact hm ▸ H1.out.pG)),hqv⟩
     refine HK1.out.trans ((HKA.out.more (F':=fp (.slice A8 k c8) ++ G1) (fun z hz=>by simp [hz])).then (kept_put w6 (by simp [H1.out.pG]) 10 _)) (fun z hz=>?_)
     rcases List.mem_append.1 hz with h2 | h2
     ·exact .inr (HO1.out.lt z (fp_own.1 h2)).1
     ·exact HN1.out z h2
    clear hHeld HKA HNV H6 HO6 HXX HRW hbx
    go_wp2_with fail
    try rw [hw7]
    go_roundw
    case rel=>exact ⟨k+1,HLT.out,rfl,HJ7⟩
    case measure=>have h1:=HLT.out;have h2:=HLV.out;rw [h2];show m - (k+1)<_;omega
   ·obtain rfl:k=m:=by omega
    have hltI:¬ tk<tm:=by have:=HTK.out;have:=HTM.out;omega
    obtain ⟨er,her⟩:∃ z,Cr.eatF (k:Int)=z:=⟨_,rfl⟩
    obtain ⟨A8',c8',e8',hcc8,_⟩:=own_form HO1.out
    simp only [Value.slice.injEq] at e8'
    obtain ⟨rfl,_,rfl⟩:=e8'
    go_upto_region 9 with (fail)
    have HEAT:=Lib.hid (reat_rv H1.out (by have:=HRD.out;show 0≤r.rd∧r.rd≤_;omega) (k:Int))
    go_wp2_with fail
    refine HEAT.out.mono ?_
    rintro e w2 ⟨rfl,ht2⟩
    obtain ⟨G2,a2,b2,h2,hk2,hn2⟩:=ht2
    have H2:=Lib.hid h2
    have HK2:=Lib.hid hk2
    have HN2:=Lib.hid hn2
    clear h2 hk2 hn2 HEAT g4 g10' f10
    obtain ⟨r2,hr2⟩:∃ z,withE (withG r (r.rd+Cr.eatF (k:Int)) r.tl) ((t+k:Nat):Int)=z:=⟨_,rfl⟩
    have hr2':withG (withE r ((t+k:Nat):Int)) ((withE r ((t+k:Nat):Int)).rd+Cr.eatF (k:Int)) (withE r ((t+k:Nat):Int)).tl=r2:=hr2
    rw [hr2'] at H2
    have HR2:=Lib.hid hr2
    clear hr2 hr2'
    go_upto_region 10 with (fail)
    have HOV:=Lib.hid (rover_rv H2.out)
    obtain ⟨ov,hov⟩:∃ z,overR r2=z:=⟨_,rfl⟩
    rw [hov] at HOV
    have HOE:=Lib.hid hov
    clear hov
    go_wp2_with fail
    refine HOV.out.mono ?_
    rintro e w3' ⟨rfl,nz,rfl⟩
    have H3:=Lib.hid ((H2.out.drewN nz).overed ov)
    have f11:=(H2.out.drewN nz).free 11
    have c11:=(H2.out.drewN nz).cells.2.2.2.2.2.2.2.2.2.2.2
    have HK3:Hid (Kept G2 w2 ((w2.drewN nz).setCell ⟨q,11,none⟩ (.int .i64 ov))):=((Kept.refl G2 w2).drewN nz).then ((H2.out.drewN nz).kput 11 _)
    obtain ⟨w3,hw3⟩:∃ z,(w2.drewN nz).setCell ⟨q,11,none⟩ (.int .i64 ov)=z:=⟨_,rfl⟩
    rw [hw3] at H3 HK3
    have d7:=H3.out.cells.2.2.2.2.2.2.2.1
    rw [show (withO r2 ov).code=r.code by rw [← HR2.out];rfl] at d7
    have d11:=H3.out.cells.2.2.2.2.2.2.2.2.2.2.2
    rw [show (withO r2 ov).ov=ov from rfl] at d11
    have HQ:Hid (∀ nq,∃ A c G' u0 u4 r2,r2=withE (withG r (r.rd+Cr.eatF (k:Int)) r.tl) ((t+k:Nat):Int)∧(Ending.returned (.tuple #[.slice A8 k c8,.int .i64 ov,.int .i64 (if ov=2 then r.code else 0)])=Ending.returned (.tuple #[.slice A k c,.int .i64 (overR r2),.int .i64 (if overR r2=2 then r.code else 0)]))∧RvIn (w3.drewN nq) q G' u0 u4 (withO r2 (overR r2))∧Goes w (w3.drewN nq) G G'∧k≤c∧RowO (w3.drewN nq) G' A ((r.bl.drop t).take k)):=fun nq=>by
     have hG:Kept G w w3:=(HK1.out.trans HK2.out HN1.out).trans HK3.out (fun z hz=>(HN2.out z hz).elim (HN1.out z) (fun hh=>.inr (Nat.le_trans HK1.out.size hh)))
     have hlen:((r.bl.drop t).take k).length=k:=by rw [List.length_take,List.length_drop];have:=HLEN.out;omega
     have hv:∀ z ∈ fp (.slice A8 k c8),z ∉ G2:=fun z hz hm=>(HN2.out z hm).elim (HF1.out z hz) (fun hh=>by have:=(HO1.out.lt z (fp_own.1 hz)).2;omega)
     have ho3:=own_kept (own_kept HO1.out HK2.out HF1.out) HK3.out hv
     have hr3:=Rd.of_own ho3
     rw [Nat.mul_one] at hr3
     refine ⟨A8,c8,G2,a2,b2,r2,HR2.out.symm,by rw [HOE.out],by rw [HOE.out];exact H3.out.drewN nq,⟨hG.drewN nq,fun z hz=>(HN2.out z hz).elim (HN1.out z) (fun hh=>.inr (Nat.le_trans HK1.out.size hh))⟩,hcc8,⟨by rw [hlen];exact hr3,fun h0 a ea hm=>hv a.block (by rw [ea];simp [fp]) hm⟩⟩
    clear H2 HK2 HN2 HOV H3 HK3 HO1 HF1 H1 HK1 HN1 HRW HTK HTM
    by_cases ho2:ov=2
    ·subst ho2
     go_upto_region 12 with (fail)
     go_quiet (fail)
     go_wp2_with fail
     go_ret3
     exact HQ.out _
    ·have ho2b:(ov == 2)=false:=by simpa using ho2
     have HQ2:Hid (∀ nq,∃ A c G' u0 u4 r2,r2=withE (withG r (r.rd+Cr.eatF (k:Int)) r.tl) ((t+k:Nat):Int)∧(Ending.returned (.tuple #[.slice A8 k c8,.int .i64 ov,.int .i64 0])=Ending.returned (.tuple #[.slice A k c,.int .i64 (overR r2),.int .i64 (if overR r2=2 then r.code else 0)]))∧RvIn (w3.drewN nq) q G' u0 u4 (withO r2 (overR r2))∧Goes w (w3.drewN nq) G G'∧k≤c∧RowO (w3.drewN nq) G' A ((r.bl.drop t).take k)):=fun nq=>by
      have:=HQ.out nq
      rw [if_neg ho2] at this
      exact this
     go_upto_region 13 with (fail)
     go_quiet (fail)
     go_wp2_with fail
     go_ret3
     exact HQ2.out _
 ·skip
  go_enter Try.func36,Try.ntmps36
  go_upto_region 1 with (fail)
  go_quiet ((go_at_call 83;exact Calls.quiet_of_same (HFI.out _)))
  obtain ⟨w1,hw1⟩:∃ x,w.drewN nq=x:=⟨_,rfl⟩
  have HW1:Hid (∃ z,w1=w.drewN z):=⟨nq,hw1.symm⟩
  have d8:w1.cell? ⟨q,8,none⟩=some (.int .i64 su):=by rw [← hw1];exact hc8
  have d9:w1.cell? ⟨q,9,none⟩=some (.bool true):=by rw [← hw1];exact hc9
  have d10:w1.cell? ⟨q,10,none⟩=some (.int .i64 (t:Int)):=by rw [← hw1];exact hc10
  rw [hw1]
  clear hw1 hc8 hc9 hc10
  go_upto_region 3 with (fail)
  go_quiet (fail)
  obtain ⟨w2,hw2⟩:∃ x,w1.drewN nq=x:=⟨_,rfl⟩
  have HW2:Hid (∃ z,w2=w.drewN z):=by obtain ⟨z,hz⟩:=HW1.out;exact ⟨z+nq,by rw [← hw2,hz,World.drewN_drewN]⟩
  have e10:w2.cell? ⟨q,10,none⟩=some (.int .i64 (t:Int)):=by rw [← hw2];exact d10
  rw [hw2]
  clear hw2 d8 d9 d10
  go_upto_region 4 with (fail)
  go_quiet ((go_at_call 84;exact Calls.quiet_of_same (HWI.out _)))
  obtain ⟨w3,hw3⟩:∃ x,w2.drewN nq=x:=⟨_,rfl⟩
  have HJ0:Hid (RTakeJ w w3 q G r t 0 (.slice none 0 0)):=by obtain ⟨z,hz⟩:=HW2.out;rw [← hw3,hz,World.drewN_drewN];exact HJQ.out _
  rw [hw3]
  clear hw3 HW1 HW2 HJQ HFI HWI e10
  have hm3:min fi (min (max su (t:Int)) ((t:Int)+wi))=tm:=by rw [← Int.min_assoc];simpa using hm2
  go_wp2_with fail
  go_loopw [8] (fun v wr=>∃ k:Nat,k≤m∧Hid (lenV v=k)∧Hid (RTakeJ w wr q G r t k v)) (fun v _=>m - lenV v)
  case atStart=>exact ⟨0,Nat.zero_le _,rfl,HJ0.out⟩
  case round =>
   clear HJ0
   obtain ⟨k,hk,HLV,HJ⟩:=hrel
   obtain ⟨G1,u0,u4,h1,hk1,hn1,ho1,hf1⟩:=HJ.out
   obtain ⟨A8,c8,e8,hc8,_⟩:=own_form ho1
   subst e8
   obtain ⟨A4,c4,e4,hcc4,_,_,hrd4⟩:=own_form h1.row
   obtain ⟨n4,hn4⟩:∃ z,(withE r ((t+k:Nat):Int)).bl.length=z:=⟨_,rfl⟩
   rw [hn4] at e4 hcc4 hrd4
   subst e4
   have HN4:Hid (n4=r.bl.length):=hn4.symm
   obtain ⟨tk,htk⟩:∃ z:Int,((t+k:Nat):Int)=z:=⟨_,rfl⟩
   have g10:=h1.cells.2.2.2.2.2.2.2.2.2.2.1
   have g4:=h1.cells.2.2.2.2.1
   have g10':wr.cell? ⟨q,10,none⟩=some (.int .i64 tk):=by rw [← htk];exact g10
   have f10:=h1.free 10
   have H1:=Lib.hid h1
   have HK1:=Lib.hid hk1
   have HN1:=Lib.hid hn1
   have HO1:=Lib.hid ho1
   have HF1:=Lib.hid hf1
   have HRW:=Lib.hid hrd4
   have HTK:=Lib.hid htk
   clear h1 hk1 hn1 ho1 hf1 HJ hrd4 hn4 g10 htk
   by_cases hlt:k<m
   ·have hltI:tk<tm:=by have:=HTK.out;have:=HTM.out;omega
    have HLT:Hid (k+1≤m):=hlt
    obtain ⟨b4,o4,hA4,hb4,hcs⟩:=HRW.out.2 (by have:=HLEN.out;have:=HN4.out;omega)
    subst hA4
    obtain ⟨x,hx⟩:∃ x,r.bl.getD (t+k) 0=x:=⟨_,rfl⟩
    have hbx:wr.cell? ⟨b4,o4+(t+k),none⟩=some (.int .u8 (x:Int)):=by
     refine hcs (t+k) _ ?_
     have hl:t+k<r.bl.length:=by have:=HLEN.out;omega
     show (bv r.bl)[t+k]?=_
     unfold bv
     rw [List.getElem?_map,List.getElem?_eq_getElem hl,← hx,List.getD_eq_getElem?_getD,List.getElem?_eq_getElem hl]
     rfl
    have HXX:=Lib.hid hx
    have hn4I:(n4:Int)≤225000000000000:=by have:=HN4.out;have:=HBL.out;omega
    have hlt4:tk<(n4:Int):=by have:=HTK.out;have:=HN4.out;have:=HLEN.out;omega
    have htk0:0≤tk:=by have:=HTK.out;omega
    have htn:tk.toNat=t+k:=by have:=HTK.out;omega
    have hwt:IntKind.i64.wrap (tk+1)=tk+1:=IntWalk.i64_in _ (by omega)
    have HS:Hid (∀ W,Below wr.heap.size wr W→(fun W:World=>W.cell? ⟨q,4,none⟩=some (.slice (some ⟨b4,o4,none⟩) n4 c4)∧W.cell? ⟨q,10,none⟩=some (.int .i64 tk)∧W.cell? ⟨b4,o4+(t+k),none⟩=some (.int .u8 (x:Int))) W):=fun W hW=>⟨(hW.cell (p:=⟨q,4,none⟩) (H1.out.hG q H1.out.pG)).trans g4,(hW.cell (p:=⟨q,10,none⟩) (H1.out.hG q H1.out.pG)).trans g10',(hW.cell (p:=⟨b4,o4+(t+k),none⟩) hb4).trans hbx⟩
    have HMX:Hid (k+1≤maxLen∧(k+1) * 1≤140737488355328):=⟨by unfold maxLen;have:=HM1.out;have:=HLT.out;omega,by have:=HM1.out;have:=HLT.out;omega⟩
    clear hcs hx g4
    go_upto_region 7 with (fail)
    refine wp_region_held_drew (S:=(fun W:World=>W.cell? ⟨q,4,none⟩=some (.slice (some ⟨b4,o4,none⟩) n4 c4)∧W.cell? ⟨q,10,none⟩=some (.int .i64 tk)∧W.cell? ⟨b4,o4+(t+k),none⟩=some (.int .u8 (x:Int)))) (by kernel_rfl) ?_ (fun hHeld=>?_)
    ·exact (HS.out _ ((Below.refl _ _).drew))
    refine wpAnyH_take (i:=0) (v:=?_) rfl (by kernel_rfl) (by kernel_rfl) (by kernel_rfl) (fun _ _ _ h=>h) (Or.inl ⟨by rfl,?_⟩) (by assumption) ?_
    rotate_left
    ·intro w hSw;(try dsimp only at hSw);go_simp;try with_reducible rfl
    go_simp
    refine wpAnyH_take (i:=1) (v:=?_) rfl (by kernel_rfl) (by kernel_rfl) (by kernel_rfl) (fun _ _ _ h=>h) (Or.inl ⟨by rfl,?_⟩) (by assumption) ?_
    rotate_left
    ·intro w hSw;(try dsimp only at hSw);go_simp;try with_reducible rfl
    go_simp
    refine wpAnyH_take (i:=2) (v:=?_) rfl (by kernel_rfl) (by kernel_rfl) (by kernel_rfl) (fun _ _ _ h=>h) (Or.inl ⟨by rfl,?_⟩) (by assumption) ?_
    rotate_left
    ·intro w hSw;(try dsimp only at hSw);go_simp;try with_reducible rfl
    go_simp
    refine wpAnyH_take (i:=3) (v:=?_) rfl (by kernel_rfl) (by kernel_rfl) (by kernel_rfl) (fun _ _ _ h=>h) (Or.inl ⟨by rfl,?_⟩) (by assumption) ?_
    rotate_left
    ·intro w hSw;(try dsimp only at hSw);go_simp;try with_reducible rfl
    go_simp
    refine wpAnyH_take (i:=4) (v:=?_) rfl (by kernel_rfl) (by kernel_rfl) (by kernel_rfl) (fun _ _ _ h=>h) (Or.inl ⟨by rfl,?_⟩) (by assumption) ?_
    rotate_left
    ·intro w hSw;(try dsimp only at hSw);go_simp;try with_reducible rfl
    go_simp
    refine wpAnyH_take (i:=5) (v:=?_) rfl (by kernel_rfl) (by kernel_rfl) (by kernel_rfl) (fun _ _ _ h=>h) (Or.inl ⟨by rfl,?_⟩) (by assumption) ?_
    rotate_left
    ·intro w hSw;(try dsimp only at hSw);go_simp;try with_reducible rfl
    go_simp
    refine wpAnyH_take (i:=6) (v:=?_) rfl (by kernel_rfl) (by kernel_rfl) (by kernel_rfl) (fun _ _ _ h=>h) (Or.inl ⟨by rfl,?_⟩) (by assumption) ?_
    rotate_left
    ·intro w hSw;(try dsimp only at hSw);go_simp;try with_reducible rfl
    go_simp
    refine wpAnyH_take (i:=7) (v:=?_) rfl (by kernel_rfl) (by kernel_rfl) (by kernel_rfl) (fun _ _ _ h=>h) (Or.inl ⟨by rfl,?_⟩) (by assumption) ?_
    rotate_left
    ·intro w hSw;(try dsimp only at hSw);go_simp;try with_reducible rfl
    go_simp
    refine wpAnyH_take (i:=8) (v:=?_) rfl (by kernel_rfl) (by kernel_rfl) (by kernel_rfl) (fun _ _ _ h=>h) (Or.inl ⟨by rfl,?_⟩) (by assumption) ?_
    rotate_left
    ·intro w hSw;(try dsimp only at hSw);go_simp;try with_reducible rfl
    go_simp
    refine wpAnyH_take (i:=9) (v:=?_) rfl (by kernel_rfl) (by kernel_rfl) (by kernel_rfl) (fun _ _ _ h=>h) (Or.inl ⟨by rfl,?_⟩) (by assumption) ?_
    rotate_left
    ·intro w hSw;(try dsimp only at hSw);go_simp;try with_reducible rfl
    go_simp
    refine wpAnyH_take (i:=10) (v:=?_) rfl (by kernel_rfl) (by kernel_rfl) (by kernel_rfl) (fun _ _ _ h=>h) (Or.inl ⟨by rfl,?_⟩) (by assumption) ?_
    rotate_left
    ·intro w hSw;(try dsimp only at hSw);go_simp;try with_reducible rfl
    go_simp
    refine wpAnyH_ready (rs:=[11]) (by kernel_rfl) (by simp) ?_
    refine AllReadyH.cons rfl (fun K hK=>?_) AllReadyH.nil
    go_simp
    have HBW:Hid (Below wr.heap.size wr (wr.drew.alloc (.cells #[.int .u8 (x:Int)] 5))):=((Below.refl _ _).drew).alloc (Nat.le_refl _) _
    refine hK.out _ _ ?_ (fun hHeld=>?_)
    ·exact HS.out _ HBW.out
    clear hK K
    go_simp
    refine wpAnyH_ready (rs:=[12]) (by kernel_rfl) (by simp) ?_
    refine AllReadyH.cons rfl (fun K hK=>?_) AllReadyH.nil
    have HOA:Hid ((wr.drew.alloc (.cells #[.int .u8 (x:Int)] 5)).ownsRow w.heap.size 5 1 (.slice A8 k c8) k (bv ((r.bl.drop t).take k))):=own_below HO1.out HBW.out
    have HDA:Hid (Rd (wr.drew.alloc (.cells #[.int .u8 (x:Int)] 5)) (wr.heap.size+1) (some ⟨wr.heap.size,0,none⟩) (1 * 1) (bv [x])):=rd_new _ _ _ _ _ _ _ rfl (by show wr.heap.size<_;omega) rfl rfl
    have HBA:Hid (w.heap.size≤(wr.drew.alloc (.cells #[.int .u8 (x:Int)] 5)).heap.size):=Nat.le_trans HK1.out.size HBW.out.size
    refine step_own_at rfl (.tmp 47) (.tmp 58) 30 rfl w.heap.size 5 i0 (.int .u8 0) 1 1 Try.underlying30 HI0.out.1 HI0.out.2.1 HI0.out.2.2.1 HI0.out.2.2.2 rfl (by decide) (.slice A8 k c8) k (bv ((r.bl.drop t).take k)) (by simp [Act.eval,Act.put]) HOA.out (wr.heap.size+1) (some ⟨wr.heap.size,0,none⟩) 1 1 (bv [x]) (by simp [Act.eval,Act.put]) HDA.out (ones_bv _) HMX.out.1 HMX.out.2 HBA.out ?_
    intro v6 w6 ho6 hg6 hn6
    have HKA:Hid (Kept (fp (.slice A8 k c8)) wr w6):=⟨hg6.os.trans HBW.out.os,hg6.tape.trans HBW.out.tape,hg6.output.trans HBW.out.output,Nat.le_trans HBW.out.size hg6.size,fun z hz hm=>(hg6.block z (Nat.lt_of_lt_of_le hz HBW.out.size) (fun e=>hm (fp_own.2 e.symm))).trans (HBW.out.block z hz)⟩
    have HNV:Hid (∀ z ∈ fp v6,z ∈ fp (.slice A8 k c8)∨wr.heap.size≤z):=fun z hz=>(hn6 z hz).imp id (fun e=>by rw [e];exact HBW.out.size)
    have HO6:=Lib.hid ho6
    obtain ⟨A6,c6,e6,_⟩:=own_form ho6
    subst e6
    have H6:Hid (RvIn w6 q G1 u0 (.slice (some ⟨b4,o4,none⟩) n4 c4) (withE r ((t+k:Nat):Int))):=H1.out.kept HKA.out (fun z hz hm=>HF1.out z hm hz)
    have HSW:Hid ((fun W:World=>W.cell? ⟨q,4,none⟩=some (.slice (some ⟨b4,o4,none⟩) n4 c4)∧W.cell? ⟨q,10,none⟩=some (.int .i64 tk)∧W.cell? ⟨b4,o4+(t+k),none⟩=some (.int .u8 (x:Int))) w6):=⟨H6.out.cells.2.2.2.2.1,by
     have:=H6.out.cells.2.2.2.2.2.2.2.2.2.2.1
     rw [show (withE r ((t+k:Nat):Int)).tk=tk from HTK.out] at this
     exact this,(World.cell?_of_block (a:=⟨b4,o4+(t+k),none⟩) (HKA.out.block b4 hb4 (fun hm=>HF1.out b4 hm (H1.out.g4 b4 (by simp [fp]))))).trans hbx⟩
    clear ho6 hg6 hn6 HOA HDA HBA
    refine hK.out _ _ ?_ (fun hHeld=>?_)
    ·exact HSW.out
    clear hK K
    go_simp
    refine wpAnyH_take (i:=13) (v:=?_) rfl (by kernel_rfl) (by kernel_rfl) (by kernel_rfl) (fun _ _ _ h=>h) (Or.inl ⟨by rfl,?_⟩) (by assumption) ?_
    rotate_left
    ·intro w hSw;(try dsimp only at hSw);go_simp;try with_reducible rfl
    go_simp
    refine wpAnyH_done (by kernel_rfl) ?_ _
    obtain ⟨w7,hw7⟩:∃ z,w6.setCell ⟨q,10,none⟩ (.int .i64 (tk+1))=z:=⟨_,rfl⟩
    have f6:=H6.out.free 10
    have c6':=H6.out.cells.2.2.2.2.2.2.2.2.2.2.1
    rw [show (withE r ((t+k:Nat):Int)).tk=tk from HTK.out] at c6'
    have HJ7:Hid (RTakeJ w w7 q G r t (k+1) (.slice A6 (k+1) c6)):=by
     rw [← hw7]
     have e1:tk+1=((t+(k+1):Nat):Int):=by have:=HTK.out;omega
     have k1:=H6.out.eaten (tk+1)
     have e2:withE (withE r ((t+k:Nat):Int)) (tk+1)=withE r ((t+(k+1):Nat):Int):=by unfold withE;rw [e1]
     rw [e2] at k1
     have kk:Kept [q] w6 (w6.setCell ⟨q,10,none⟩ (.int .i64 (tk+1))):=kept_put w6 (by simp) 10 _
     have e3:bv ((r.bl.drop t).take k) ++ bv [x]=bv ((r.bl.drop t).take (k+1)):=by
      rw [← bv_app]
      congr 1
      have hl:k<(r.bl.drop t).length:=by rw [List.length_drop];have:=HLEN.out;have:=HLT.out;omega
      rw [List.take_succ_eq_append_getElem hl,List.getElem_drop]
      congr 2
      rw [← HXX.out,List.getD_eq_getElem?_getD,List.getElem?_eq_getElem (show t+k<r.bl.length by have:=HLEN.out;have:=HLT.out;omega)]
      rfl
     have ko:=HO6.out
     rw [e3] at ko
     have hqv:∀ z ∈ fp (.slice A6 (k+1) c6),z ∉ G1:=fun z hz hm=>(HNV.out z hz).elim (fun h2=>HF1.out z h2 hm) (fun h2=>by have:=H1.out.hG z hm;omega)
     refine ⟨G1,u0,_,k1,?_,HN1.out,own_kept ko kk (fun z hz hm=>hqv z hz (by simp at hm;exact hm ▸ H1.out.pG)),hqv⟩
     refine HK1.out.trans ((HKA.out.more (F':=fp (.slice A8 k c8) ++ G1) (fun z hz=>by simp [hz])).then (kept_put w6 (by simp [H1.out.pG]) 10 _)) (fun z hz=>?_)
     rcases List.mem_append.1 hz with h2 | h2
     ·exact .inr (HO1.out.lt z (fp_own.1 h2)).1
     ·exact HN1.out z h2
    clear hHeld HKA HNV H6 HO6 HXX HRW hbx
    go_wp2_with fail
    try rw [hw7]
    go_roundw
    case rel=>exact ⟨k+1,HLT.out,rfl,HJ7⟩
    case measure=>have h1:=HLT.out;have h2:=HLV.out;rw [h2];show m - (k+1)<_;omega
   ·obtain rfl:k=m:=by omega
    have hltI:¬ tk<tm:=by have:=HTK.out;have:=HTM.out;omega
    obtain ⟨er,her⟩:∃ z,Cr.eatF (k:Int)=z:=⟨_,rfl⟩
    obtain ⟨A8',c8',e8',hcc8,_⟩:=own_form HO1.out
    simp only [Value.slice.injEq] at e8'
    obtain ⟨rfl,_,rfl⟩:=e8'
    go_upto_region 9 with (fail)
    have HEAT:=Lib.hid (reat_rv H1.out (by have:=HRD.out;show 0≤r.rd∧r.rd≤_;omega) (k:Int))
    go_wp2_with fail
    refine HEAT.out.mono ?_
    rintro e w2 ⟨rfl,ht2⟩
    obtain ⟨G2,a2,b2,h2,hk2,hn2⟩:=ht2
    have H2:=Lib.hid h2
    have HK2:=Lib.hid hk2
    have HN2:=Lib.hid hn2
    clear h2 hk2 hn2 HEAT g4 g10' f10
    obtain ⟨r2,hr2⟩:∃ z,withE (withG r (r.rd+Cr.eatF (k:Int)) r.tl) ((t+k:Nat):Int)=z:=⟨_,rfl⟩
    have hr2':withG (withE r ((t+k:Nat):Int)) ((withE r ((t+k:Nat):Int)).rd+Cr.eatF (k:Int)) (withE r ((t+k:Nat):Int)).tl=r2:=hr2
    rw [hr2'] at H2
    have HR2:=Lib.hid hr2
    clear hr2 hr2'
    go_upto_region 10 with (fail)
    have HOV:=Lib.hid (rover_rv H2.out)
    obtain ⟨ov,hov⟩:∃ z,overR r2=z:=⟨_,rfl⟩
    rw [hov] at HOV
    have HOE:=Lib.hid hov
    clear hov
    go_wp2_with fail
    refine HOV.out.mono ?_
    rintro e w3' ⟨rfl,nz,rfl⟩
    have H3:=Lib.hid ((H2.out.drewN nz).overed ov)
    have f11:=(H2.out.drewN nz).free 11
    have c11:=(H2.out.drewN nz).cells.2.2.2.2.2.2.2.2.2.2.2
    have HK3:Hid (Kept G2 w2 ((w2.drewN nz).setCell ⟨q,11,none⟩ (.int .i64 ov))):=((Kept.refl G2 w2).drewN nz).then ((H2.out.drewN nz).kput 11 _)
    obtain ⟨w3,hw3⟩:∃ z,(w2.drewN nz).setCell ⟨q,11,none⟩ (.int .i64 ov)=z:=⟨_,rfl⟩
    rw [hw3] at H3 HK3
    have d7:=H3.out.cells.2.2.2.2.2.2.2.1
    rw [show (withO r2 ov).code=r.code by rw [← HR2.out];rfl] at d7
    have d11:=H3.out.cells.2.2.2.2.2.2.2.2.2.2.2
    rw [show (withO r2 ov).ov=ov from rfl] at d11
    have HQ:Hid (∀ nq,∃ A c G' u0 u4 r2,r2=withE (withG r (r.rd+Cr.eatF (k:Int)) r.tl) ((t+k:Nat):Int)∧(Ending.returned (.tuple #[.slice A8 k c8,.int .i64 ov,.int .i64 (if ov=2 then r.code else 0)])=Ending.returned (.tuple #[.slice A k c,.int .i64 (overR r2),.int .i64 (if overR r2=2 then r.code else 0)]))∧RvIn (w3.drewN nq) q G' u0 u4 (withO r2 (overR r2))∧Goes w (w3.drewN nq) G G'∧k≤c∧RowO (w3.drewN nq) G' A ((r.bl.drop t).take k)):=fun nq=>by
     have hG:Kept G w w3:=(HK1.out.trans HK2.out HN1.out).trans HK3.out (fun z hz=>(HN2.out z hz).elim (HN1.out z) (fun hh=>.inr (Nat.le_trans HK1.out.size hh)))
     have hlen:((r.bl.drop t).take k).length=k:=by rw [List.length_take,List.length_drop];have:=HLEN.out;omega
     have hv:∀ z ∈ fp (.slice A8 k c8),z ∉ G2:=fun z hz hm=>(HN2.out z hm).elim (HF1.out z hz) (fun hh=>by have:=(HO1.out.lt z (fp_own.1 hz)).2;omega)
     have ho3:=own_kept (own_kept HO1.out HK2.out HF1.out) HK3.out hv
     have hr3:=Rd.of_own ho3
     rw [Nat.mul_one] at hr3
     refine ⟨A8,c8,G2,a2,b2,r2,HR2.out.symm,by rw [HOE.out],by rw [HOE.out];exact H3.out.drewN nq,⟨hG.drewN nq,fun z hz=>(HN2.out z hz).elim (HN1.out z) (fun hh=>.inr (Nat.le_trans HK1.out.size hh))⟩,hcc8,⟨by rw [hlen];exact hr3,fun h0 a ea hm=>hv a.block (by rw [ea];simp [fp]) hm⟩⟩
    clear H2 HK2 HN2 HOV H3 HK3 HO1 HF1 H1 HK1 HN1 HRW HTK HTM
    by_cases ho2:ov=2
    ·subst ho2
     go_upto_region 12 with (fail)
     go_quiet (fail)
     go_wp2_with fail
     go_ret3
     exact HQ.out _
    ·have ho2b:(ov == 2)=false:=by simpa using ho2
     have HQ2:Hid (∀ nq,∃ A c G' u0 u4 r2,r2=withE (withG r (r.rd+Cr.eatF (k:Int)) r.tl) ((t+k:Nat):Int)∧(Ending.returned (.tuple #[.slice A8 k c8,.int .i64 ov,.int .i64 0])=Ending.returned (.tuple #[.slice A k c,.int .i64 (overR r2),.int .i64 (if overR r2=2 then r.code else 0)]))∧RvIn (w3.drewN nq) q G' u0 u4 (withO r2 (overR r2))∧Goes w (w3.drewN nq) G G'∧k≤c∧RowO (w3.drewN nq) G' A ((r.bl.drop t).take k)):=fun nq=>by
      have:=HQ.out nq
      rw [if_neg ho2] at this
      exact this
     go_upto_region 13 with (fail)
     go_quiet (fail)
     go_wp2_with fail
     go_ret3
     exact HQ2.out _
end
end Go.Proofs.Ytoahkffdoaphlaa.Re
