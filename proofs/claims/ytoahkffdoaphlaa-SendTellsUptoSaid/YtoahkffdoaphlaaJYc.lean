/- Joined texts. Conditions: as each theorem lists them. -/
import Derived.Test.YtoahkffdoaphlaaJYb
import Derived.Test.YtoahkffdoaphlaaJWf
import Derived.Test.YtoahkffdoaphlaaJXt
set_option linter.unusedSimpArgs false
set_option linter.unusedVariables false
set_option maxRecDepth 100000
set_option maxHeartbeats 80000000
namespace Go.Proofs.Ytoahkffdoaphlaa.Se
open Go Go.RowKit Go.Proofs.Ytoahkffdoaphlaa Go.Proofs.Ytoahkffdoaphlaa.Sp Go.Proofs.Ytoahkffdoaphlaa.Sp.Ref
section
variable {w w':World} {p:Nat} {G:List Nat} {v1 v8 v9:Value} {s:St}
theorem rcame_gaps2 (h:RIn w p G v1 v8 v9 s) (hl:s.came.length≤1000000) (f t:Int) :
  Calls Try.prog 60 #[.pointer (some ⟨p,8,none⟩),.int .i64 f,.int .i64 t] w fun e w'=>∃ A n c,e=.returned (.slice A n c)∧(gapsF s.came f t).length=n * 2∧n≤c∧Rd w' w'.heap.size A (n * 2) (ints (gapsF s.came f t))∧(∀ a,A=some a→w.heap.size≤a.block)∧Below w.heap.size w w':=rgaps_new _ p 8 _ _ f t w h.setCame (by omega)
/-- The bits of the Fin's news, of the Reset's. -/
theorem rput2 (h:RIn w p G v1 v8 v9 s) (s':St) (i j:Nat) (u v:Value) (he:((rC s v1 v8 v9).setIfInBounds i u).setIfInBounds j v=rC s' v1 v8 v9) (hb:s'.bs=s.bs) (hl:s'.lost=s.lost) (hc:s'.came=s.came):RIn ((w.setCell ⟨p,i,none⟩ u).setCell ⟨p,j,none⟩ v) p G v1 v8 v9 s':=by
 have hk:Kept [p] w ((w.setCell ⟨p,i,none⟩ u).setCell ⟨p,j,none⟩ v):=(kept_set _ _ _ _).then (kept_set _ _ _ _)
 exact ⟨by rw [← he];exact set_slot (set_slot h.hp i u) j v,fun k hk'=>Nat.lt_of_lt_of_le (h.hG k hk') hk.size,h.pG,by rw [hb];exact h.data' hk,by rw [hc];exact h.came' hk,by rw [hl];exact h.lost' hk,h.g1,h.g8,h.g9⟩
def stFin (s:St) (n:Int):St:=⟨s.l,s.u,s.id,s.bs,s.lost,s.came,s.fd,n,s.rs,s.code,s.sure,s.br⟩
def stBr (s:St) (n:Int):St:=⟨s.l,s.u,s.id,s.bs,s.lost,s.came,s.fd,s.fin,s.rs,s.code,s.sure,n⟩
theorem rfin_come (h:RIn w p G v1 v8 v9 s) (hs:fsN s.fin=true):RIn ((w.setCell ⟨p,11,none⟩ (.bool true)).setCell ⟨p,10,none⟩ (.bool true)) p G v1 v8 v9 (stFin s (comeN s.fin)):=by
 have h0:¬ s.fin=0:=of_decide_eq_true hs
 have e:comeN s.fin=3:=by unfold comeN;rw [if_neg h0]
 refine rput2 h _ _ _ _ _ ?_ rfl rfl rfl
 rw [e]
 unfold rC
 simp only [hs]
 rfl
theorem rbr_come (h:RIn w p G v1 v8 v9 s) (hs:fsN s.br=true):RIn ((w.setCell ⟨p,14,none⟩ (.bool true)).setCell ⟨p,13,none⟩ (.bool true)) p G v1 v8 v9 (stBr s (comeN s.br)):=by
 have h0:¬ s.br=0:=of_decide_eq_true hs
 have e:comeN s.br=3:=by unfold comeN;rw [if_neg h0]
 refine rput2 h _ _ _ _ _ ?_ rfl rfl rfl
 rw [e]
 unfold rC
 simp only [hs]
 rfl
theorem lose_bits {n:Int} (hn:0≤n∧n≤3) (hs:fsN n=true) (hc:fcN n=false):ftN (loseN n)=false∧fcN (loseN n)=false∧fsN (loseN n)=true:=by
 have h0:¬ n=0:=of_decide_eq_true hs
 have h1:¬ n=3:=of_decide_eq_false hc
 have e:loseN n=2:=by unfold loseN;split <;> omega
 rw [e]
 exact ⟨rfl,rfl,rfl⟩
theorem rfin_lose (h:RIn w p G v1 v8 v9 s) (hn:0≤s.fin∧s.fin≤3) (hs:fsN s.fin=true) (hc:fcN s.fin=false):RIn (w.setCell ⟨p,10,none⟩ (.bool false)) p G v1 v8 v9 (stFin s (loseN s.fin)):=by
 obtain ⟨e1,e2,e3⟩:=lose_bits hn hs hc
 refine h.put _ _ _ ?_ rfl rfl rfl
 unfold rC stFin
 simp only [e1,e2,e3,hs,hc]
 rfl
theorem rbr_lose (h:RIn w p G v1 v8 v9 s) (hn:0≤s.br∧s.br≤3) (hs:fsN s.br=true) (hc:fcN s.br=false):RIn (w.setCell ⟨p,13,none⟩ (.bool false)) p G v1 v8 v9 (stBr s (loseN s.br)):=by
 obtain ⟨e1,e2,e3⟩:=lose_bits hn hs hc
 refine h.put _ _ _ ?_ rfl rfl rfl
 unfold rC stBr
 simp only [e1,e2,e3,hs,hc]
 rfl
theorem fs_zero {n:Int} (h:fsN n=false):n=0:=by have:=of_decide_eq_false h;omega
theorem fc_three {n:Int} (h:fcN n=true):n=3:=of_decide_eq_true h
theorem RMid.to2 {g:Nat} {G':List Nat} {W:World} {a b c:Value} {s2:St} (h:RMid w w' p g G G' v1 v8 v9 s) (h2:RIn W p G' a b c s2) (hk:Kept [p] w' W):RTo w W p G s2:=⟨G',a,b,c,h2,h.kept.then hk,h.new⟩
theorem turn_zero (es:List Int) (b:Bool):turn es 0 0 b=es:=by unfold turn;rw [if_pos (Int.le_refl _)]
theorem gaps_zero (es:List Int):gapsF es 0 0=[]:=by unfold gapsF;rw [if_pos (Int.le_refl _)]
theorem racked_st (h:RIn w p G v1 v8 v9 s) (hok:StOk s) (k id off a b note:Int) (fin:Bool) (A:Option Addr) (n c:Nat) (A2:Option Addr) (n2 c2:Nat) (ho:0≤off∧off≤4611686018427387903) (hnn:n≤1099511627776) :
  Calls Try.prog 24 #[.pointer (some ⟨p,0,none⟩),.agg #[.int .i64 k,.int .i64 id,.int .i64 off,.int .i64 a,.int .i64 b,.int .i64 note,.bool fin,.slice A n c,.slice A2 n2 c2]] w fun e w'=>e=.returned (.tuple #[])∧RTo w w' p G (ackS s ⟨k,id,off,b,fin,n⟩):=by
 obtain ⟨g,hg⟩:∃ g,w.heap.size=g:=⟨_,rfl⟩
 obtain ⟨w1,hw1⟩:∃ x,w.alloc (.cells #[.int .i64 k,.int .i64 id,.int .i64 off,.int .i64 a,.int .i64 b,.int .i64 note,.bool fin,.slice A n c,.slice A2 n2 c2] 54)=x:=⟨_,rfl⟩
 have hM:RMid w w1 p g G G v1 v8 v9 s:=by rw [← hg,← hw1];exact rmid_new h _
 have hg1:FrB w1 g k id off a b note fin A n c A2 n2 c2:=by rw [← hg,← hw1];exact heap_alloc_new w _
 obtain ⟨hu0,hu1,hu2⟩:=hok.u
 have hu3:s.u≤4000:=by have:=hok.n;omega
 have hlen:=edges_len hok
 have hnI:(n:Int)≤1099511627776:=by omega
 obtain ⟨ho0,ho1⟩:=ho
 have HW:=Lib.hid hw1
 have HGG:=Lib.hid hg
 have HLN:=Lib.hid hlen
 have HOK:=Lib.hid hok
 have HM:=Lib.hid hM
 have HG:=Lib.hid hg1
 obtain ⟨y0,y1,y2,y3,y4,y5,y6,y7,y8⟩:=hg1.cells
 obtain ⟨hc0,_,_,hc3,_,_,_,hc7,_,_,hc10,hc11,hc12,hc13,hc14,hc15⟩:=hM.st.cells
 obtain ⟨sE,hsE⟩:∃ x,ackS s ⟨k,id,off,b,fin,n⟩=x:=⟨_,rfl⟩
 have HSE:=Lib.hid hsE
 rw [hsE]
 clear h hM hw1 hg1 hg hok hlen hu2 hsE
 by_cases hi:id=s.id
 ·obtain ⟨sid,hsid⟩:∃ x,s.id=x:=⟨_,rfl⟩
  rw [hsid] at hi hc0
  subst hi
  have HID:=Lib.hid hsid
  clear hsid
  by_cases hk:k=3
  ·subst hk
   obtain ⟨tz,htz⟩:∃ x,min (off+(n:Int)) s.u=x:=⟨_,rfl⟩
   have HTZ:Hid (tz≤s.u):=by show _≤_;omega
   obtain ⟨us,hus⟩:∃ x,s.u=x:=⟨_,rfl⟩
   rw [hus] at htz hc3 hu0 hu3
   have hmin:tz=off+n∧off+(n:Int)≤us∨tz=us∧us<off+(n:Int):=by omega
   have HE:Hid (ackS s ⟨3,id,off,b,fin,n⟩=⟨s.l,s.u,s.id,s.bs,turn s.lost off tz false,turn s.came off tz true,s.fd,if fin=true∧off+(n:Int)=(s.bs.length:Int) then comeN s.fin else s.fin,s.rs,s.code,s.sure,s.br⟩):=by
    have e1:bytesS s ⟨3,id,off,b,fin,n⟩=(off,tz):=by
     unfold bytesS
     rw [if_neg (by rw [HID.out];simp)]
     show (off,min (off+(n:Int)) s.u)=_
     rw [hus,htz]
    have e2:newsS s ⟨3,id,off,b,fin,n⟩=if (fin=true∧off+(n:Int)=(s.bs.length:Int)) then 1 else 0:=by
     unfold newsS
     rw [if_neg (by rw [HID.out];simp)]
     by_cases hq:fin=true∧off+(n:Int)=(s.bs.length:Int)
     ·rw [if_pos ⟨rfl,hq.1,hq.2⟩,if_pos hq]
     ·rw [if_neg (fun h=>hq ⟨h.2.1,h.2.2⟩),if_neg hq,if_neg (fun h=>by have:=h.1;simp at this)]
    show _=_
    unfold ackS
    rw [e1,e2]
    split <;> rfl
   have HE2:Hid (sE=⟨s.l,s.u,s.id,s.bs,turn s.lost off tz false,turn s.came off tz true,s.fd,if fin=true∧off+(n:Int)=(s.bs.length:Int) then comeN s.fin else s.fin,s.rs,s.code,s.sure,s.br⟩):=HSE.out.symm.trans HE.out
   clear HE HSE
   have hus2:=hus
   clear hus
   go_enter Try.func24,Try.ntmps24
   go_wp2_with fail
   rw [HW.out,HGG.out]
   go_quiet (fail)
   have HMQ:=Lib.hid (HM.out.drewN nq)
   have HGQ:Hid (FrB (w1.drewN nq) g 3 id off a b note fin A n c A2 n2 c2):=HG.out
   obtain ⟨w2,hw2⟩:∃ x,w1.drewN nq=x:=⟨_,rfl⟩
   rw [hw2] at HMQ HGQ ⊢
   clear hw2 y0 y1 y2 y3 y4 y5 y6 y7 y8 hc0 hc3 hc7 hc10 hc11 hc12 hc13 hc14 hc15 HM HG HW HGG
   obtain ⟨y0,y1,y2,_,_,_,_,y7,_⟩:=HGQ.out.cells
   obtain ⟨_,_,_,hc3,_⟩:=HMQ.out.st.cells
   rw [hus2] at hc3
   go_upto_region 3 with (fail)
   go_cut [4] (fun v wx=>v=.int .i64 tz∧∃ q,wx=w2.drewN q)
   case first =>
    rcases hmin with ⟨rfl,hle⟩ | ⟨rfl,hle⟩
    ·go_quiet (fail)
     go_wp2_with fail
     go_meet
     case rel=>exact ⟨rfl,_,rfl⟩
    ·go_quiet (fail)
     go_wp2_with fail
     go_meet
     case rel=>exact ⟨rfl,_,rfl⟩
   case rest =>
    obtain ⟨hcv,qw,hcw⟩:=hcut
    subst hcv
    have HM3:=Lib.hid (HMQ.out.drewN qw)
    have HG3:Hid (FrB (w2.drewN qw) g 3 id off a b note fin A n c A2 n2 c2):=HGQ.out
    rw [← hcw] at HM3 HG3
    clear hcw y0 y1 y2 y7 hc3 hmin HMQ HGQ
    go_upto_region 4 with (fail)
    refine still_tail 6 (by kernel_rfl) (by kernel_rfl) ?_
    intro wz hwz
    have HMZ:=Lib.hid (HM3.out.drewN 1)
    have HGZ:Hid (FrB (wc.drewN 1) g 3 id off a b note fin A n c A2 n2 c2):=HG3.out
    have hwz2:wz=wc.drewN 1:=hwz
    rw [← hwz2] at HMZ HGZ
    clear hwz hwz2
    obtain ⟨y0,y1,y2,y3,y4,y5,y6,y7,y8⟩:=HGZ.out.cells
    simp only [List.take_succ_cons,List.take_zero,List.drop_succ_cons,List.drop_zero]
    iterate 6 still_step
    refine wpStill_nil ?_
    go_wp2_with fail
    refine (rcame_add HMZ.out.st (by have:=HLN.out;omega) off tz).mono ?_
    rintro e w4 ⟨rfl,hs4⟩
    obtain ⟨⟨G4,a4,b4,c4,hm4⟩,hg4⟩:=HMZ.out.then (lt_of_block HGZ.out) hs4
    have HM4:=Lib.hid hm4
    have HG4:Hid (FrB w4 g 3 id off a b note fin A n c A2 n2 c2):=hg4.trans HGZ.out
    clear hs4 hm4 hg4 HMZ HGZ HM3 HG3 y0 y1 y2 y3 y4 y5 y6 y7 y8
    go_upto_region 5 with (fail)
    refine still_tail 6 (by kernel_rfl) (by kernel_rfl) ?_
    intro wz hwz
    have HMZ:=Lib.hid (HM4.out.drewN 1)
    have HGZ:Hid (FrB (w4.drewN 1) g 3 id off a b note fin A n c A2 n2 c2):=HG4.out
    have hwz2:wz=w4.drewN 1:=hwz
    rw [← hwz2] at HMZ HGZ
    clear hwz hwz2
    obtain ⟨y0,y1,y2,y3,y4,y5,y6,y7,y8⟩:=HGZ.out.cells
    simp only [List.take_succ_cons,List.take_zero,List.drop_succ_cons,List.drop_zero]
    iterate 6 still_step
    refine wpStill_nil ?_
    go_wp2_with fail
    refine (rlost_drop HMZ.out.st (by have:=HLN.out;show s.lost.length≤_;omega) off tz).mono ?_
    rintro e w5 ⟨rfl,hs5⟩
    obtain ⟨⟨G5,a5,b5,c5,hm5⟩,hg5⟩:=HMZ.out.then (lt_of_block HGZ.out) hs5
    have HM5:=Lib.hid hm5
    have HG5:Hid (FrB w5 g 3 id off a b note fin A n c A2 n2 c2):=hg5.trans HGZ.out
    clear hs5 hm5 hg5 HMZ HGZ HM4 HG4 y0 y1 y2 y3 y4 y5 y6 y7 y8
    obtain ⟨s5,hs5⟩:∃ x:St,(⟨s.l,s.u,s.id,s.bs,turn s.lost off tz false,turn s.came off tz true,s.fd,s.fin,s.rs,s.code,s.sure,s.br⟩:St)=x:=⟨_,rfl⟩
    have HF:Hid (s5.fin=s.fin∧s5.bs=s.bs):=by rw [← hs5];exact ⟨rfl,rfl⟩
    have HR:Hid ((⟨s.l,s.u,s.id,s.bs,turn s.lost off tz false,turn s.came off tz true,s.fd,if fin=true∧off+(n:Int)=(s.bs.length:Int) then comeN s.fin else s.fin,s.rs,s.code,s.sure,s.br⟩:St)=if fin=true∧off+(n:Int)=(s.bs.length:Int) then stFin s5 (comeN s5.fin) else s5):=by show _=_;rw [← hs5];split <;> rfl
    have HE3:Hid (sE=if fin=true∧off+(n:Int)=(s.bs.length:Int) then stFin s5 (comeN s5.fin) else s5):=HE2.out.trans HR.out
    have hs5':(⟨s.l,s.u,s.id,s.bs,turn s.lost off tz false,turn s.came off tz true,s.fd,s.fin,s.rs,s.code,s.sure,s.br⟩:St)=s5:=hs5
    have HM6:Hid (RMid w w5 p g G G5 a5 b5 c5 s5):=by rw [← hs5'];exact HM5.out
    clear HM5 HR hs5 hs5'
    go_upto_region 6 with (fail)
    obtain ⟨y0,y1,y2,y3,y4,y5,y6,y7,y8⟩:=HG5.out.cells
    have HEN:=Lib.hid (rends_st HM6.out.st 3 id off a b note fin A n c A2 n2 c2 (by rw [HF.out.2];exact HOK.out.n) hnn)
    rw [HF.out.2] at HEN
    go_wp2_with fail
    refine HEN.out.mono ?_
    rintro e w6 ⟨rfl,hb6⟩
    have HM7:=Lib.hid (HM6.out.below hb6)
    have HG7:Hid (FrB w6 g 3 id off a b note fin A n c A2 n2 c2):=(hb6.block g (lt_of_block HG5.out)).trans HG5.out
    clear hb6 HEN HM6 HG5 y0 y1 y2 y3 y4 y5 y6 y7 y8
    obtain ⟨y0,y1,y2,y3,y4,y5,y6,y7,y8⟩:=HG7.out.cells
    obtain ⟨fs,hfs⟩:∃ x,fsN s5.fin=x:=⟨_,rfl⟩
    rw [hfs]
    by_cases hq:fin=true∧off+(n:Int)=(s.bs.length:Int)
    ·have HE4:Hid (sE=stFin s5 (comeN s5.fin)):=by show _=_;rw [HE3.out,if_pos hq]
     obtain ⟨rfl,hq2⟩:=hq
     rw [decide_eq_true hq2]
     clear hq2
     cases fs
     ·have e:stFin s5 (comeN s5.fin)=s5:=by rw [fs_zero hfs];show stFin s5 0=s5;unfold stFin;rw [← fs_zero hfs]
      have HE5:Hid (sE=s5):=HE4.out.trans e
      clear e hfs
      go_upto_region 9 with (fail)
      go_quiet (fail)
      have HMZ:=Lib.hid (HM7.out.drewN nq)
      go_wp2_with fail
      go_end0
      exact ⟨rfl,by rw [HE5.out];exact HMZ.out.to⟩
     ·have HST:Hid (RIn ((w6.setCell ⟨p,11,none⟩ (.bool true)).setCell ⟨p,10,none⟩ (.bool true)) p G5 a5 b5 c5 (stFin s5 (comeN s5.fin))):=rfin_come HM7.out.st hfs
      have hf10:=HM7.out.st.free 10
      have hf11:=HM7.out.st.free 11
      obtain ⟨_,_,_,_,_,_,_,_,_,_,hc10,hc11,_⟩:=HM7.out.st.cells
      clear hfs
      go_upto_region 9 with (fail)
      obtain ⟨w7,hw7⟩:∃ x,(w6.setCell ⟨p,11,none⟩ (.bool true)).setCell ⟨p,10,none⟩ (.bool true)=x:=⟨_,rfl⟩
      have hk7:Kept [p] w6 w7:=by rw [← hw7];exact (kept_set _ _ _ _).then (kept_set _ _ _ _)
      have HG8:Hid (FrB w7 g 3 id off a b note true A n c A2 n2 c2):=(hk7.block g (lt_of_block HG7.out) (fun e=>by simp at e;exact HM7.out.far (e ▸ HM7.out.st.pG))).trans HG7.out
      rw [hw7] at HST ⊢
      clear hw7 hf10 hf11 hc10 hc11 y0 y1 y2 y3 y4 y5 y6 y7 y8
      have HK7:=Lib.hid hk7
      clear hk7
      obtain ⟨y0,y1,y2,y3,y4,y5,y6,y7,y8⟩:=HG8.out.cells
      go_quiet (fail)
      have HSZ:=Lib.hid (HST.out.drewN nq)
      go_wp2_with fail
      go_end0
      exact ⟨rfl,by rw [HE4.out];exact HM7.out.to2 HSZ.out (HK7.out.drewN nq)⟩
    ·have HE5:Hid (sE=s5):=by show _=_;rw [HE3.out,if_neg hq]
     have e:(fin && fs && decide (off+(n:Int)=(s.bs.length:Int)))=false:=by
      cases fin
      ·rfl
      ·rw [decide_eq_false (fun h=>hq ⟨rfl,h⟩)];simp
     rw [e]
     clear e hq hfs
     go_upto_region 9 with (fail)
     go_quiet (fail)
     have HMZ:=Lib.hid (HM7.out.drewN nq)
     go_wp2_with fail
     go_end0
     exact ⟨rfl,by rw [HE5.out];exact HMZ.out.to⟩
  ·have hk2:(k == 3)=false:=by simpa using hk
   go_enter Try.func24,Try.ntmps24
   go_wp2_with fail
   rw [HW.out,HGG.out]
   go_quiet (fail)
   have HMQ:=Lib.hid (HM.out.drewN nq)
   have HGQ:Hid (FrB (w1.drewN nq) g k id off a b note fin A n c A2 n2 c2):=HG.out
   obtain ⟨w2,hw2⟩:∃ x,w1.drewN nq=x:=⟨_,rfl⟩
   rw [hw2] at HMQ HGQ ⊢
   clear hw2 y0 y1 y2 y3 y4 y5 y6 y7 y8 hc0 hc3 hc7 hc10 hc11 hc12 hc13 hc14 hc15
   obtain ⟨y0,_,_,_,y4,_⟩:=HGQ.out.cells
   obtain ⟨_,_,_,_,_,_,_,hc7,_,_,_,_,_,hc13,hc14,hc15⟩:=HMQ.out.st.cells
   go_upto_region 9 with (fail)
   have HE:Hid (ackS s ⟨k,id,off,b,fin,n⟩=if k=4∧b=s.sure then stBr s (comeN s.br) else s):=by
    have e1:bytesS s ⟨k,id,off,b,fin,n⟩=(0,0):=by unfold bytesS;rw [if_pos (.inl hk)]
    have e2:newsS s ⟨k,id,off,b,fin,n⟩=if k=4∧b=s.sure then 2 else 0:=by
     unfold newsS
     rw [if_neg (by rw [HID.out];simp),if_neg (fun h=>hk h.1)]
    show _=_
    unfold ackS
    rw [e1,e2]
    simp only [turn_zero,gaps_zero]
    split <;> rfl
   have HE2:Hid (sE=if k=4∧b=s.sure then stBr s (comeN s.br) else s):=HSE.out.symm.trans HE.out
   clear HE hk HSE
   obtain ⟨su,hsu⟩:∃ x,s.sure=x:=⟨_,rfl⟩
   rw [hsu] at hc7 HE2
   clear hsu
   obtain ⟨fs,hfs⟩:∃ x,fsN s.br=x:=⟨_,rfl⟩
   rw [hfs] at hc15
   obtain ⟨fc,hfc⟩:∃ x,fcN s.br=x:=⟨_,rfl⟩
   rw [hfc] at hc14
   by_cases hk4:k=4
   ·subst hk4
    cases fs
    ·have e:comeN s.br=s.br:=by rw [fs_zero hfs];rfl
     have e2:(if (4:Int)=4∧b=su then stBr s (comeN s.br) else s)=s:=by rw [e];split <;> rfl
     have HE3:Hid (sE=s):=HE2.out.trans e2
     clear e e2 hfs hfc
     go_quiet (fail)
     have HMZ:=Lib.hid (HMQ.out.drewN nq)
     go_wp2_with fail
     go_end0
     exact ⟨rfl,by rw [HE3.out];exact HMZ.out.to⟩
    ·by_cases hbs:b=su
     ·subst hbs
      have HE3:Hid (sE=stBr s (comeN s.br)):=by show _=_;rw [HE2.out,if_pos ⟨rfl,rfl⟩]
      have HST:Hid (∀ q,RIn (((w2.drewN q).setCell ⟨p,14,none⟩ (.bool true)).setCell ⟨p,13,none⟩ (.bool true)) p G v1 v8 v9 (stBr s (comeN s.br))):=fun q=>rbr_come (HMQ.out.st.drewN q) hfs
      have hf13:∀ q,(w2.drewN q).frozen? ⟨p,13,none⟩=false:=fun q=>(HMQ.out.st.drewN q).free 13
      have hf14:∀ q,(w2.drewN q).frozen? ⟨p,14,none⟩=false:=fun q=>(HMQ.out.st.drewN q).free 14
      clear hfs hfc
      go_quiet (fail)
      have hf13:=hf13 nq
      have hf14:=hf14 nq
      have HMZ:=Lib.hid (HMQ.out.drewN nq)
      have HSZ:=Lib.hid (HST.out nq)
      go_wp2_with fail
      go_end0
      exact ⟨rfl,by rw [HE3.out];exact HMZ.out.to2 HSZ.out ((kept_set _ _ _ _).then (kept_set _ _ _ _))⟩
     ·have HE3:Hid (sE=s):=by show _=_;rw [HE2.out,if_neg (fun h=>hbs h.2)]
      have hb2:(b == su)=false:=by simpa using hbs
      clear hfs hfc hbs
      go_quiet (fail)
      have HMZ:=Lib.hid (HMQ.out.drewN nq)
      go_wp2_with fail
      go_end0
      exact ⟨rfl,by rw [HE3.out];exact HMZ.out.to⟩
   ·have HE3:Hid (sE=s):=by show _=_;rw [HE2.out,if_neg (fun h=>hk4 h.1)]
    have hk5:(k == 4)=false:=by simpa using hk4
    clear hfs hfc hk4
    go_quiet (fail)
    have HMZ:=Lib.hid (HMQ.out.drewN nq)
    go_wp2_with fail
    go_end0
    exact ⟨rfl,by rw [HE3.out];exact HMZ.out.to⟩
 ·have hi2:(id != s.id)=true:=by simpa using hi
  have HE:Hid (ackS s ⟨k,id,off,b,fin,n⟩=s):=by
   have e1:bytesS s ⟨k,id,off,b,fin,n⟩=(0,0):=by unfold bytesS;rw [if_pos (.inr hi)]
   have e2:newsS s ⟨k,id,off,b,fin,n⟩=0:=by unfold newsS;rw [if_pos hi]
   show _=_
   unfold ackS
   rw [e1,e2]
   simp only [turn_zero,gaps_zero]
   rfl
  obtain rfl:sE=s:=HSE.out.symm.trans HE.out
  clear HE hi HSE
  go_enter Try.func24,Try.ntmps24
  go_wp2_with fail
  rw [HW.out,HGG.out]
  go_quiet (fail)
  have HMQ:=Lib.hid (HM.out.drewN nq)
  go_wp2_with fail
  first | (go_end0;exact ⟨rfl,HMQ.out.to⟩) | exact bodyPost_ret (v:=.tuple #[]) (by simp [results,Try.results24,go_sem]) rfl ⟨rfl,HMQ.out.to⟩
theorem rlost_st (h:RIn w p G v1 v8 v9 s) (hok:StOk s) (k id off a b note:Int) (fin:Bool) (A:Option Addr) (n c:Nat) (A2:Option Addr) (n2 c2:Nat) (ho:0≤off∧off≤4611686018427387903) (hnn:n≤1099511627776) :
  Calls Try.prog 22 #[.pointer (some ⟨p,0,none⟩),.agg #[.int .i64 k,.int .i64 id,.int .i64 off,.int .i64 a,.int .i64 b,.int .i64 note,.bool fin,.slice A n c,.slice A2 n2 c2]] w fun e w'=>e=.returned (.tuple #[])∧RTo w w' p G (lostS s ⟨k,id,off,b,fin,n⟩):=by
 obtain ⟨g,hg⟩:∃ g,w.heap.size=g:=⟨_,rfl⟩
 obtain ⟨w1,hw1⟩:∃ x,w.alloc (.cells #[.int .i64 k,.int .i64 id,.int .i64 off,.int .i64 a,.int .i64 b,.int .i64 note,.bool fin,.slice A n c,.slice A2 n2 c2] 54)=x:=⟨_,rfl⟩
 have hM:RMid w w1 p g G G v1 v8 v9 s:=by rw [← hg,← hw1];exact rmid_new h _
 have hg1:FrB w1 g k id off a b note fin A n c A2 n2 c2:=by rw [← hg,← hw1];exact heap_alloc_new w _
 obtain ⟨hu0,hu1,hu2⟩:=hok.u
 have hu3:s.u≤4000:=by have:=hok.n;omega
 have hlen:=edges_len hok
 have hnI:(n:Int)≤1099511627776:=by omega
 obtain ⟨ho0,ho1⟩:=ho
 have HW:=Lib.hid hw1
 have HGG:=Lib.hid hg
 have HLN:=Lib.hid hlen
 have HOK:=Lib.hid hok
 have HM:=Lib.hid hM
 have HG:=Lib.hid hg1
 obtain ⟨y0,y1,y2,y3,y4,y5,y6,y7,y8⟩:=hg1.cells
 obtain ⟨hc0,_,_,hc3,_,_,_,hc7,_,_,hc10,hc11,hc12,hc13,hc14,hc15⟩:=hM.st.cells
 obtain ⟨sE,hsE⟩:∃ x,lostS s ⟨k,id,off,b,fin,n⟩=x:=⟨_,rfl⟩
 have HSE:=Lib.hid hsE
 rw [hsE]
 clear h hM hw1 hg1 hg hok hlen hu2 hsE
 by_cases hi:id=s.id
 ·obtain ⟨sid,hsid⟩:∃ x,s.id=x:=⟨_,rfl⟩
  rw [hsid] at hi hc0
  subst hi
  have HID:=Lib.hid hsid
  clear hsid
  by_cases hk:k=3
  ·subst hk
   obtain ⟨tz,htz⟩:∃ x,min (off+(n:Int)) s.u=x:=⟨_,rfl⟩
   have HTZ:Hid (tz≤s.u):=by show _≤_;omega
   obtain ⟨us,hus⟩:∃ x,s.u=x:=⟨_,rfl⟩
   rw [hus] at htz hc3 hu0 hu3
   have hmin:tz=off+n∧off+(n:Int)≤us∨tz=us∧us<off+(n:Int):=by omega
   have HE:Hid (lostS s ⟨3,id,off,b,fin,n⟩=⟨s.l,s.u,s.id,s.bs,addAll s.lost (gapsF s.came off tz),s.came,s.fd,if fin=true∧off+(n:Int)=(s.bs.length:Int) then loseN s.fin else s.fin,s.rs,s.code,s.sure,s.br⟩):=by
    have e1:bytesS s ⟨3,id,off,b,fin,n⟩=(off,tz):=by
     unfold bytesS
     rw [if_neg (by rw [HID.out];simp)]
     show (off,min (off+(n:Int)) s.u)=_
     rw [hus,htz]
    have e2:newsS s ⟨3,id,off,b,fin,n⟩=if (fin=true∧off+(n:Int)=(s.bs.length:Int)) then 1 else 0:=by
     unfold newsS
     rw [if_neg (by rw [HID.out];simp)]
     by_cases hq:fin=true∧off+(n:Int)=(s.bs.length:Int)
     ·rw [if_pos ⟨rfl,hq.1,hq.2⟩,if_pos hq]
     ·rw [if_neg (fun h=>hq ⟨h.2.1,h.2.2⟩),if_neg hq,if_neg (fun h=>by have:=h.1;simp at this)]
    show _=_
    unfold lostS
    rw [e1,e2]
    split <;> rfl
   have HE2:Hid (sE=⟨s.l,s.u,s.id,s.bs,addAll s.lost (gapsF s.came off tz),s.came,s.fd,if fin=true∧off+(n:Int)=(s.bs.length:Int) then loseN s.fin else s.fin,s.rs,s.code,s.sure,s.br⟩):=HSE.out.symm.trans HE.out
   clear HE HSE
   have HGO:=Lib.hid (ok_gaps HOK.out.came off tz)
   have HGL:=Lib.hid (gaps_le (f:=off) HOK.out.cameU HOK.out.u.1 HTZ.out)
   obtain ⟨gs,hgs⟩:∃ x,gapsF s.came off tz=x:=⟨_,rfl⟩
   rw [hgs] at HGO HGL HE2
   have HGS:=Lib.hid hgs
   clear hgs
   have HADD:Hid (∀ j,(addAll s.lost (gs.take j)).length≤4001):=fun j=>by
    refine small_len (addAll_ok _ _ HOK.out.lost) 4000 fun e he=>?_
    have:=addAll_le HOK.out.u.1 _ _ HOK.out.lostU (fun e he=>HGL.out e (List.mem_of_mem_take he)) e he
    have:=HOK.out.n
    have:=HOK.out.u
    omega
   have hus2:=hus
   clear hus
   go_enter Try.func22,Try.ntmps22
   go_wp2_with fail
   rw [HW.out,HGG.out]
   go_quiet (fail)
   have HMQ:=Lib.hid (HM.out.drewN nq)
   have HGQ:Hid (FrB (w1.drewN nq) g 3 id off a b note fin A n c A2 n2 c2):=HG.out
   obtain ⟨w2,hw2⟩:∃ x,w1.drewN nq=x:=⟨_,rfl⟩
   rw [hw2] at HMQ HGQ ⊢
   clear hw2 y0 y1 y2 y3 y4 y5 y6 y7 y8 hc0 hc3 hc7 hc10 hc11 hc12 hc13 hc14 hc15 HM HG HW HGG
   obtain ⟨y0,y1,y2,_,_,_,_,y7,_⟩:=HGQ.out.cells
   obtain ⟨_,_,_,hc3,_⟩:=HMQ.out.st.cells
   rw [hus2] at hc3
   go_upto_region 3 with (fail)
   go_cut [4] (fun v wx=>v=.int .i64 tz∧∃ q,wx=w2.drewN q)
   case first =>
    rcases hmin with ⟨rfl,hle⟩ | ⟨rfl,hle⟩
    ·go_quiet (fail)
     go_wp2_with fail
     go_meet
     case rel=>exact ⟨rfl,_,rfl⟩
    ·go_quiet (fail)
     go_wp2_with fail
     go_meet
     case rel=>exact ⟨rfl,_,rfl⟩
   case rest =>
    obtain ⟨hcv,qw,hcw⟩:=hcut
    subst hcv
    have HM3:=Lib.hid (HMQ.out.drewN qw)
    have HG3:Hid (FrB (w2.drewN qw) g 3 id off a b note fin A n c A2 n2 c2):=HGQ.out
    rw [← hcw] at HM3 HG3
    clear hcw y0 y1 y2 y7 hc3 hmin HMQ HGQ
    go_upto_region 4 with (fail)
    refine still_tail 6 (by kernel_rfl) (by kernel_rfl) ?_
    intro wz hwz
    have HMZ:=Lib.hid (HM3.out.drewN 1)
    have HGZ:Hid (FrB (wc.drewN 1) g 3 id off a b note fin A n c A2 n2 c2):=HG3.out
    have hwz2:wz=wc.drewN 1:=hwz
    rw [← hwz2] at HMZ HGZ
    clear hwz hwz2
    obtain ⟨y0,y1,y2,y3,y4,y5,y6,y7,y8⟩:=HGZ.out.cells
    simp only [List.take_succ_cons,List.take_zero,List.drop_succ_cons,List.drop_zero]
    iterate 6 still_step
    refine wpStill_nil ?_
    go_wp2_with fail
    refine (rcame_gaps2 HMZ.out.st (by have:=HLN.out;omega) off tz).mono ?_
    rintro e w4 ⟨A6,m,c6,rfl,hl6,hc6,hr6,ha6,hb4⟩
    rw [HGS.out] at hl6 hr6
    have HM4:=Lib.hid (HMZ.out.below hb4)
    have HG4:Hid (FrB w4 g 3 id off a b note fin A n c A2 n2 c2):=(hb4.block g (lt_of_block HGZ.out)).trans HGZ.out
    have hm:=Lib.hid hl6
    have HP6:Hid (∀ a,A6=some a→a.block≠p):=fun a ea e=>by have h1:=ha6 a ea;have h2:=HMZ.out.st.hG p HMZ.out.st.pG;omega
    have HMB:Hid (m≤2001):=by
     have h1:=small_len HGO.out 4000 fun e he=>by have:=HGL.out e he;have:=HOK.out.n;have:=HOK.out.u;omega
     have:=hm.out
     show _≤_
     omega
    have hmb:(m:Int)≤2001:=by have:=HMB.out;omega
    have hmc:(m:Int)≤(c6:Int):=by omega
    have HL0:Hid ((∃ G' a' b' c',RMid w w4 p g G G' a' b' c' (lostAt s gs 0))∧FrB w4 g 3 id off a b note fin A n c A2 n2 c2∧Rd w4 w4.heap.size A6 (m * 2) (ints gs)):=⟨⟨_,_,_,_,HM4.out⟩,HG4.out,hr6⟩
    clear hl6 hc6 hr6 ha6 hb4 HMZ HGZ HM3 HG3 HM4 HG4 y0 y1 y2 y3 y4 y5 y6 y7 y8
    go_wp2_with fail
    go_loopw [6] (fun i wr=>∃ j:Nat,j≤m∧i=.int .i64 j∧Hid ((∃ G' a' b' c',RMid w wr p g G G' a' b' c' (lostAt s gs j))∧FrB wr g 3 id off a b note fin A n c A2 n2 c2∧Rd wr wr.heap.size A6 (m * 2) (ints gs))) (fun i _=>m - (intOf i).toNat)
    case atStart=>exact ⟨0,Nat.zero_le _,rfl,HL0⟩
    case round =>
     clear HL0
     obtain ⟨j,hj,rfl,HK⟩:=hrel
     by_cases hlt:j<m
     ·have hlti:(j:Int)<(m:Int):=by omega
      obtain ⟨⟨Gj,aj,bj,cj,hMj⟩,hGj,hRj⟩:=HK.out
      obtain ⟨bb,oo,hA,hbn,hcs⟩:=hRj.2 (by omega)
      subst hA
      have hl1:2 * j+1<gs.length:=by have:=hm.out;omega
      obtain ⟨x,hx⟩:∃ x,Hid (gs.getD (2 * j) 0=x):=⟨_,rfl⟩
      obtain ⟨y,hy⟩:∃ y,Hid (gs.getD (2 * j+1) 0=y):=⟨_,rfl⟩
      have hcx:wr.cell? ⟨bb,oo+j * 2,none⟩=some (.int .i64 x):=by
       rw [show oo+j * 2=oo+2 * j by omega,hcs (2 * j) _ (ints_get gs _ (by omega)),hx.out]
      have hcy:wr.cell? ⟨bb,oo+j * 2+1,none⟩=some (.int .i64 y):=by
       rw [show oo+j * 2+1=oo+(2 * j+1) by omega,hcs (2 * j+1) _ (ints_get gs _ (by omega)),hy.out]
      have HSN:Hid (addAll s.lost (gs.take (2 * (j+1)))=turn (addAll s.lost (gs.take (2 * j))) x y true):=by
       show _=_
       rw [take_pair gs j hl1,hx.out,hy.out]
       exact addAll_snoc _ _ _ _ (by rw [List.length_take];omega)
      have HMj:=Lib.hid hMj
      have HGj:=Lib.hid hGj
      have HRj:=Lib.hid hRj
      clear hMj hGj hRj hcs HK
      go_wp2_with fail
      refine still_tail 13 (by kernel_rfl) (by kernel_rfl) ?_
      intro wz hwz
      have hwz2:wz=wr.drewN 1:=hwz
      have z0:wz.cell? ⟨bb,oo+j * 2,none⟩=some (.int .i64 x):=by rw [hwz2];exact hcx
      have z1:wz.cell? ⟨bb,oo+j * 2+1,none⟩=some (.int .i64 y):=by rw [hwz2];exact hcy
      have HMZ:=Lib.hid (HMj.out.drewN 1)
      have HGZ:Hid (FrB (wr.drewN 1) g 3 id off a b note fin A n c A2 n2 c2):=HGj.out
      have HRZ:Hid (Rd (wr.drewN 1) (wr.drewN 1).heap.size (some ⟨bb,oo,none⟩) (m * 2) (ints gs)):=HRj.out
      rw [← hwz2] at HMZ HGZ HRZ
      clear hwz hwz2 hcx hcy HMj HGj HRj
      simp only [List.take_succ_cons,List.take_zero,List.drop_succ_cons,List.drop_zero]
      iterate 13 still_step
      refine wpStill_nil ?_
      go_wp2_with fail
      refine (rlost_add HMZ.out.st (by show (addAll s.lost (gs.take (2 * j))).length≤_;have:=HADD.out (2 * j);omega) x y).mono ?_
      rintro e w5 ⟨rfl,hs5⟩
      obtain ⟨⟨G5,a5,b5,c5,hm5⟩,hg5⟩:=HMZ.out.then (lt_of_block HGZ.out) hs5
      have HN:Hid ((∃ G' a' b' c',RMid w w5 p g G G' a' b' c' (lostAt s gs (j+1)))∧FrB w5 g 3 id off a b note fin A n c A2 n2 c2∧Rd w5 w5.heap.size (some ⟨bb,oo,none⟩) (m * 2) (ints gs)):=by
       refine ⟨⟨G5,a5,b5,c5,?_⟩,hg5.trans HGZ.out,?_⟩
       ·show RMid _ _ _ _ _ _ _ _ _ ⟨s.l,s.u,s.id,s.bs,addAll s.lost (gs.take (2 * (j+1))),s.came,s.fd,s.fin,s.rs,s.code,s.sure,s.br⟩
        rw [HSN.out]
        exact hm5
       ·obtain ⟨_,_,_,_,_,hk5,_⟩:=hs5
        exact rd_kept HRZ.out hk5 fun _ a ea=>by simpa using HP6.out a ea
      clear hs5 hm5 hg5 z0 z1 HMZ HGZ HRZ
      go_wp2_with fail
      go_roundw
      case rel=>exact ⟨j+1,by omega,by go_num,HN⟩
      case measure=>simp [intOf];omega
     ·have hlti:¬ (j:Int)<(m:Int):=by omega
      obtain rfl:j=m:=by omega
      obtain ⟨⟨G5,a5,b5,c5,hm5⟩,hg5,_⟩:=HK.out
      have HEG:Hid (gs.take (2 * j)=gs):=List.take_of_length_le (by rw [hm.out];omega)
      obtain ⟨s5,hs5⟩:∃ x:St,lostAt s gs j=x:=⟨_,rfl⟩
      rw [hs5] at hm5
      have hs6:(⟨s.l,s.u,s.id,s.bs,addAll s.lost gs,s.came,s.fd,s.fin,s.rs,s.code,s.sure,s.br⟩:St)=s5:=by rw [← hs5];unfold lostAt;rw [HEG.out]
      have HF:Hid (s5.fin=s.fin∧s5.bs=s.bs):=by rw [← hs6];exact ⟨rfl,rfl⟩
      have HR:Hid ((⟨s.l,s.u,s.id,s.bs,addAll s.lost gs,s.came,s.fd,if fin=true∧off+(n:Int)=(s.bs.length:Int) then loseN s.fin else s.fin,s.rs,s.code,s.sure,s.br⟩:St)=if fin=true∧off+(n:Int)=(s.bs.length:Int) then stFin s5 (loseN s5.fin) else s5):=by show _=_;rw [← hs6];split <;> rfl
      have HE3:Hid (sE=if fin=true∧off+(n:Int)=(s.bs.length:Int) then stFin s5 (loseN s5.fin) else s5):=HE2.out.trans HR.out
      have HM6:=Lib.hid hm5
      have HG5:=Lib.hid hg5
      obtain ⟨w5,hw5⟩:∃ x,wr=x:=⟨_,rfl⟩
      rw [hw5] at HM6 HG5 ⊢
      clear hm5 hg5 HR hs5 hs6 HEG HK hw5
      go_upto_region 9 with (fail)
      obtain ⟨y0,y1,y2,y3,y4,y5,y6,y7,y8⟩:=HG5.out.cells
      have HEN:=Lib.hid (rends_st HM6.out.st 3 id off a b note fin A n c A2 n2 c2 (by rw [HF.out.2];exact HOK.out.n) hnn)
      rw [HF.out.2] at HEN
      go_wp2_with fail
      refine HEN.out.mono ?_
      rintro e w6 ⟨rfl,hb6⟩
      have HM7:=Lib.hid (HM6.out.below hb6)
      have HG7:Hid (FrB w6 g 3 id off a b note fin A n c A2 n2 c2):=(hb6.block g (lt_of_block HG5.out)).trans HG5.out
      clear hb6 HEN HM6 HG5 y0 y1 y2 y3 y4 y5 y6 y7 y8
      obtain ⟨y0,y1,y2,y3,y4,y5,y6,y7,y8⟩:=HG7.out.cells
      obtain ⟨fs,hfs⟩:∃ x,fsN s5.fin=x:=⟨_,rfl⟩
      rw [hfs]
      by_cases hq:fin=true∧off+(n:Int)=(s.bs.length:Int)
      ·have HE4:Hid (sE=stFin s5 (loseN s5.fin)):=by show _=_;rw [HE3.out,if_pos hq]
       obtain ⟨rfl,hq2⟩:=hq
       rw [decide_eq_true hq2]
       clear hq2
       cases fs
       ·have e:stFin s5 (loseN s5.fin)=s5:=by rw [fs_zero hfs];show stFin s5 0=s5;unfold stFin;rw [← fs_zero hfs]
        have HE5:Hid (sE=s5):=HE4.out.trans e
        clear e hfs
        go_upto_region 11 with (fail)
        go_quiet (fail)
        have HMZ:=Lib.hid (HM7.out.drewN nq)
        go_wp2_with fail
        go_end0
        exact ⟨rfl,by rw [HE5.out];exact HMZ.out.to⟩
       ·obtain ⟨fc,hfc⟩:∃ x,fcN s5.fin=x:=⟨_,rfl⟩
        obtain ⟨_,_,_,_,_,_,_,_,_,_,hc10,hc11,_⟩:=HM7.out.st.cells
        rw [hfc] at hc11
        cases fc
        ·have HST:Hid (RIn (w6.setCell ⟨p,10,none⟩ (.bool false)) p G5 a5 b5 c5 (stFin s5 (loseN s5.fin))):=rfin_lose HM7.out.st (by rw [HF.out.1];exact HOK.out.fin) hfs hfc
         have hf10:=HM7.out.st.free 10
         clear hfs hfc
         go_upto_region 11 with (fail)
         obtain ⟨w7,hw7⟩:∃ x,w6.setCell ⟨p,10,none⟩ (.bool false)=x:=⟨_,rfl⟩
         have hk7:Kept [p] w6 w7:=by rw [← hw7];exact kept_set _ _ _ _
         have HG8:Hid (FrB w7 g 3 id off a b note true A n c A2 n2 c2):=(hk7.block g (lt_of_block HG7.out) (fun e=>by simp at e;exact HM7.out.far (e ▸ HM7.out.st.pG))).trans HG7.out
         rw [hw7] at HST ⊢
         clear hw7 hf10 hc10 hc11 y0 y1 y2 y3 y4 y5 y6 y7 y8
         have HK7:=Lib.hid hk7
         clear hk7
         obtain ⟨y0,y1,y2,y3,y4,y5,y6,y7,y8⟩:=HG8.out.cells
         go_quiet (fail)
         have HSZ:=Lib.hid (HST.out.drewN nq)
         go_wp2_with fail
         go_end0
         exact ⟨rfl,by rw [HE4.out];exact HM7.out.to2 HSZ.out (HK7.out.drewN nq)⟩
        ·have e:stFin s5 (loseN s5.fin)=s5:=by rw [fc_three hfc];show stFin s5 3=s5;unfold stFin;rw [← fc_three hfc]
         have HE5:Hid (sE=s5):=HE4.out.trans e
         clear e hfs hfc
         go_upto_region 11 with (fail)
         go_quiet (fail)
         have HMZ:=Lib.hid (HM7.out.drewN nq)
         go_wp2_with fail
         go_end0
         exact ⟨rfl,by rw [HE5.out];exact HMZ.out.to⟩
      ·have HE5:Hid (sE=s5):=by show _=_;rw [HE3.out,if_neg hq]
       have e:(fin && fs && decide (off+(n:Int)=(s.bs.length:Int)))=false:=by
        cases fin
        ·rfl
        ·rw [decide_eq_false (fun h=>hq ⟨rfl,h⟩)];simp
       rw [e]
       clear e hq hfs
       go_upto_region 11 with (fail)
       go_quiet (fail)
       have HMZ:=Lib.hid (HM7.out.drewN nq)
       go_wp2_with fail
       go_end0
       exact ⟨rfl,by rw [HE5.out];exact HMZ.out.to⟩
  ·have hk2:(k == 3)=false:=by simpa using hk
   go_enter Try.func22,Try.ntmps22
   go_wp2_with fail
   rw [HW.out,HGG.out]
   go_quiet (fail)
   have HMQ:=Lib.hid (HM.out.drewN nq)
   have HGQ:Hid (FrB (w1.drewN nq) g k id off a b note fin A n c A2 n2 c2):=HG.out
   obtain ⟨w2,hw2⟩:∃ x,w1.drewN nq=x:=⟨_,rfl⟩
   rw [hw2] at HMQ HGQ ⊢
   clear hw2 y0 y1 y2 y3 y4 y5 y6 y7 y8 hc0 hc3 hc7 hc10 hc11 hc12 hc13 hc14 hc15
   obtain ⟨y0,_,_,_,y4,_⟩:=HGQ.out.cells
   obtain ⟨_,_,_,_,_,_,_,hc7,_,_,_,_,_,hc13,hc14,hc15⟩:=HMQ.out.st.cells
   go_upto_region 11 with (fail)
   have HE:Hid (lostS s ⟨k,id,off,b,fin,n⟩=if k=4∧b=s.sure then stBr s (loseN s.br) else s):=by
    have e1:bytesS s ⟨k,id,off,b,fin,n⟩=(0,0):=by unfold bytesS;rw [if_pos (.inl hk)]
    have e2:newsS s ⟨k,id,off,b,fin,n⟩=if k=4∧b=s.sure then 2 else 0:=by
     unfold newsS
     rw [if_neg (by rw [HID.out];simp),if_neg (fun h=>hk h.1)]
    show _=_
    unfold lostS
    rw [e1,e2]
    simp only [turn_zero,gaps_zero]
    split <;> rfl
   have HE2:Hid (sE=if k=4∧b=s.sure then stBr s (loseN s.br) else s):=HSE.out.symm.trans HE.out
   clear HE hk HSE
   obtain ⟨su,hsu⟩:∃ x,s.sure=x:=⟨_,rfl⟩
   rw [hsu] at hc7 HE2
   clear hsu
   obtain ⟨fs,hfs⟩:∃ x,fsN s.br=x:=⟨_,rfl⟩
   rw [hfs] at hc15
   obtain ⟨fc,hfc⟩:∃ x,fcN s.br=x:=⟨_,rfl⟩
   rw [hfc] at hc14
   by_cases hk4:k=4
   ·subst hk4
    cases fs
    ·have e:loseN s.br=s.br:=by rw [fs_zero hfs];rfl
     have e2:(if (4:Int)=4∧b=su then stBr s (loseN s.br) else s)=s:=by rw [e];split <;> rfl
     have HE3:Hid (sE=s):=HE2.out.trans e2
     clear e e2 hfs hfc
     go_quiet (fail)
     have HMZ:=Lib.hid (HMQ.out.drewN nq)
     go_wp2_with fail
     go_end0
     exact ⟨rfl,by rw [HE3.out];exact HMZ.out.to⟩
    ·by_cases hbs:b=su
     ·subst hbs
      have HE3:Hid (sE=stBr s (loseN s.br)):=by show _=_;rw [HE2.out,if_pos ⟨rfl,rfl⟩]
      cases fc
      ·have HST:Hid (∀ q,RIn ((w2.drewN q).setCell ⟨p,13,none⟩ (.bool false)) p G v1 v8 v9 (stBr s (loseN s.br))):=fun q=>rbr_lose (HMQ.out.st.drewN q) HOK.out.br hfs hfc
       have hf13:∀ q,(w2.drewN q).frozen? ⟨p,13,none⟩=false:=fun q=>(HMQ.out.st.drewN q).free 13
       clear hfs hfc
       go_quiet (fail)
       have hf13:=hf13 nq
       have HMZ:=Lib.hid (HMQ.out.drewN nq)
       have HSZ:=Lib.hid (HST.out nq)
       go_wp2_with fail
       go_end0
       exact ⟨rfl,by rw [HE3.out];exact HMZ.out.to2 HSZ.out (kept_set _ _ _ _)⟩
      ·have e:stBr s (loseN s.br)=s:=by rw [fc_three hfc];show stBr s 3=s;unfold stBr;rw [← fc_three hfc]
       have HE4:Hid (sE=s):=HE3.out.trans e
       clear HE3
       have HE3:=HE4
       clear e hfs hfc HE4
       go_quiet (fail)
       have HMZ:=Lib.hid (HMQ.out.drewN nq)
       go_wp2_with fail
       go_end0
       exact ⟨rfl,by rw [HE3.out];exact HMZ.out.to⟩
     ·have HE3:Hid (sE=s):=by show _=_;rw [HE2.out,if_neg (fun h=>hbs h.2)]
      have hb2:(b == su)=false:=by simpa using hbs
      clear hfs hfc hbs
      go_quiet (fail)
      have HMZ:=Lib.hid (HMQ.out.drewN nq)
      go_wp2_with fail
      go_end0
      exact ⟨rfl,by rw [HE3.out];exact HMZ.out.to⟩
   ·have HE3:Hid (sE=s):=by show _=_;rw [HE2.out,if_neg (fun h=>hk4 h.1)]
    have hk5:(k == 4)=false:=by simpa using hk4
    clear hfs hfc hk4
    go_quiet (fail)
    have HMZ:=Lib.hid (HMQ.out.drewN nq)
    go_wp2_with fail
    go_end0
    exact ⟨rfl,by rw [HE3.out];exact HMZ.out.to⟩
 ·have hi2:(id != s.id)=true:=by simpa using hi
  have HE:Hid (lostS s ⟨k,id,off,b,fin,n⟩=s):=by
   have e1:bytesS s ⟨k,id,off,b,fin,n⟩=(0,0):=by unfold bytesS;rw [if_pos (.inr hi)]
   have e2:newsS s ⟨k,id,off,b,fin,n⟩=0:=by unfold newsS;rw [if_pos hi]
   show _=_
   unfold lostS
   rw [e1,e2]
   simp only [turn_zero,gaps_zero]
   rfl
  obtain rfl:sE=s:=HSE.out.symm.trans HE.out
  clear HE hi HSE
  go_enter Try.func22,Try.ntmps22
  go_wp2_with fail
  rw [HW.out,HGG.out]
  go_quiet (fail)
  have HMQ:=Lib.hid (HM.out.drewN nq)
  go_wp2_with fail
  first | (go_end0;exact ⟨rfl,HMQ.out.to⟩) | exact bodyPost_ret (v:=.tuple #[]) (by simp [results,Try.results22,go_sem]) rfl ⟨rfl,HMQ.out.to⟩
end
end Go.Proofs.Ytoahkffdoaphlaa.Se
