/- Joined texts. Conditions: as each theorem lists them. -/
import Derived.Test.YtoahkffdoaphlaaJYf
import Derived.Test.YtoahkffdoaphlaaJWi
import Derived.Laws.Cover1
set_option linter.unusedSimpArgs false
set_option linter.unusedVariables false
set_option maxRecDepth 100000
set_option maxHeartbeats 80000000
namespace Go.Proofs.Ytoahkffdoaphlaa.Se
open Go Go.RowKit Go.Proofs.Ytoahkffdoaphlaa Go.Proofs.Ytoahkffdoaphlaa.Sp Go.Proofs.Ytoahkffdoaphlaa.Sp.Ref
theorem first_le {es:List Int} (h:Ok es) (j:Nat) (hj:j<es.length):es.getD 0 0≤es.getD j 0:=by
 rcases Nat.eq_zero_or_pos j with h0 | h0
 ·subst h0;exact Int.le_refl _
 ·have h1:=List.pairwise_iff_getElem.1 h.1 0 j (by omega) hj h0
  rw [List.getD_eq_getElem?_getD,List.getD_eq_getElem?_getD,List.getElem?_eq_getElem (by omega),List.getElem?_eq_getElem hj]
  exact Int.le_of_lt h1
theorem next_fin {s:St} (hok:StOk s) {room most:Int} (hh:hitS s=false) (hz:min (min (endS s - s.u) most) (leftS s)≤0) :
  nextS s room most=if room<bareS s s.u then none else if finS s s.u 0=true∧dueN s.fin=true then some (⟨s.u,0,true,0⟩,putS s s.u 0 true 0) else none:=by
 have hd:dueS s most=(s.u,s.u):=by
  unfold dueS
  rw [if_neg (by rw [hh];simp)]
  congr 1
  omega
 unfold nextS
 rw [hd]
 show (if room<bareS s s.u then none else _)=_
 split
 ·rfl
 ·rename_i hr
  have hf:fitS (s.u - s.u) room (bareS s s.u)=0:=by
   have:=fitS_in (s.u - s.u) room (bareS s s.u) (by omega) (by omega)
   omega
  show (if fitS (s.u - s.u) room (bareS s s.u)=0∧_ then none else _)=_
  rw [hf]
  by_cases hc:finS s s.u 0=true∧dueN s.fin=true
  ·rw [if_neg (fun h=>h.2 hc),if_pos hc,hc.1,show max (s.u+0 - s.u) 0=0 by omega]
  ·rw [if_pos ⟨rfl,hc⟩,if_neg hc]
theorem not_told {n:Int} (h:0≤n∧n≤3):dueN n=!ftN n:=by
 unfold dueN ftN
 by_cases hc:n=1∨n=3
 ·rw [decide_eq_true hc,decide_eq_false (by omega)];rfl
 ·rw [decide_eq_false hc,decide_eq_true (by omega)];rfl
theorem FrB.far {w:World} {gx g:Nat} {k id off a b note:Int} {fin:Bool} {A A2:Option Addr} {n c n2 c2:Nat} (h:FrB w gx k id off a b note fin A n c A2 n2 c2) (hne:gx≠g) (j:Nat) (u:Value):FrB (w.setCell ⟨g,j,none⟩ u) gx k id off a b note fin A n c A2 n2 c2 :=
 (Below.heap_setCell _ _ _ _ hne).trans h
theorem FrB.drew {w:World} {gx:Nat} {k id off a b note:Int} {fin:Bool} {A A2:Option Addr} {n c n2 c2:Nat} (h:FrB w gx k id off a b note fin A n c A2 n2 c2):FrB w.drew gx k id off a b note fin A n c A2 n2 c2:=h
section
variable {w w':World} {p:Nat} {G:List Nat} {v1 v8 v9:Value} {s:St}
theorem rnext_miss (h:RIn w p G v1 v8 v9 s) (hok:StOk s) (room most:Int) (hh:hitS s=false) :
  Calls Try.prog 26 #[.pointer (some ⟨p,0,none⟩),.int .i64 room,.int .i64 most] w (RNextP s room most w p G):=by
 obtain ⟨hu0,hu1,hu2⟩:=hok.u
 have hbn:=hok.n
 have hl:=hok.l
 have hen:=endS_in hok
 have hge:∀ j,j<s.lost.length→endS s≤s.lost.getD j 0:=fun j hj=>by
  have h1:=first_le hok.lost j hj
  have h2:¬ (0<s.lost.length∧s.lost.getD 0 0<endS s):=fun hc=>by
   have:hitS s=true:=by unfold hitS;rw [decide_eq_true hc.1,decide_eq_true hc.2];rfl
   rw [hh] at this;cases this
  omega
 obtain ⟨g,hg⟩:∃ g,w.heap.size=g:=⟨_,rfl⟩
 obtain ⟨w1,hw1⟩:∃ x,w.alloc (.cells #[.int .i64 0,.int .i64 0,.int .i64 0,.int .i64 0,.int .i64 0,.int .i64 0,.bool false,.slice none 0 0,.slice none 0 0] 54)=x:=⟨_,rfl⟩
 have hM:RMid w w1 p g G G v1 v8 v9 s:=by rw [← hg,← hw1];exact rmid_new h _
 have hg1:w1.heap[g]?=some (.cells #[.int .i64 0,.int .i64 0,.int .i64 0,.int .i64 0,.int .i64 0,.int .i64 0,.bool false,.slice none 0 0,.slice none 0 0] 54 (0,0)):=by rw [← hg,← hw1];exact heap_alloc_new w _
 obtain ⟨hL1,A9,m,c9,e9,hm,hmc,hr9,_⟩:=hM.st.lost
 subst e9
 obtain ⟨Av,cv,e1,_⟩:=hM.st.data
 subst e1
 have HFN:=Lib.hid (next_fin hok (room:=room) (most:=most) hh)
 have HDU:Hid (0<min (min (endS s - s.u) most) (leftS s)→s.u=(dueS s most).1∧min (min (endS s - s.u) most) (leftS s)=(dueS s most).2 - (dueS s most).1):=fun hz=>by
  rw [due_miss hh]
  exact ⟨rfl,by show _=s.u+max 0 (min (min most (leftS s)) (endS s - s.u)) - s.u;omega⟩
 have HENL:Hid (endS s≤(s.bs.length:Int)):=hen.2
 have HMAY:=Lib.hid (fun (W:World) (hW:Below w1.heap.size w1 W)=>rmay_st (hM.st.below hW))
 have HLE:=Lib.hid (fun (W:World) (hW:Below w1.heap.size w1 W)=>Cr.rleft_any (hM.st.below hW).cred ⟨by omega,by omega⟩ ⟨hu0,by omega⟩)
 obtain ⟨en,hen'⟩:∃ x,endS s=x:=⟨_,rfl⟩
 obtain ⟨lf,hlf⟩:∃ x,leftS s=x:=⟨_,rfl⟩
 rw [show Cr.leftF s.l s.u=lf from hlf] at HLE
 rw [hen'] at HMAY hge hen HDU HFN HENL
 rw [hlf] at HDU HFN
 obtain ⟨z,hz⟩:∃ x,min (min (en - s.u) most) lf=x:=⟨_,rfl⟩
 rw [hz] at HDU HFN
 obtain ⟨a,ha⟩:∃ a:Nat,s.u=(a:Int):=⟨s.u.toNat,by omega⟩
 have hzl:z≤en - s.u:=by omega
 have hzlf:z≤lf:=by omega
 have HLFB:Hid (lf=Cr.leftF s.l s.u):=hlf.symm
 have HFR:=Lib.hid (fun (W:World) (hW:Below w1.heap.size w1 W) (hz0:0<z)=>rframe_st (hM.st.below hW) hok a z room (by omega) (by omega))
 rw [← ha] at HFR
 obtain ⟨u,hu⟩:∃ x,s.u=x:=⟨_,rfl⟩
 have hmin3:∀ (ts:Array TypeId) (t:TypeId) (W:World),(Builtin.min_ ts t #[.int .i64 (en - u),.int .i64 most,.int .i64 lf]).run Try.prog W=.ok (.int .i64 z) W:=fun ts t W=>by
  rw [run_min_int3]
  congr 2
  rw [← hz,hu]
  omega
 have hc0:=hM.st.cells
 obtain ⟨_,_,_,hc3,_,_,_,_,_,hc9,_⟩:=hM.st.cells
 have HU:=Lib.hid hu
 rw [hu] at hc3 hu0 hu1 hu2
 have huI:u≤4000:=by omega
 have henI:en≤4000:=by omega
 have hen0:0≤en:=by omega
 have hmcI:(m:Int)≤(c9:Int):=by omega
 have hmI:(m:Int)≤2199023255552:=by have:=(edges_len hok).1;omega
 have HML:Hid (s.lost.length=m * 2):=hm
 have HR:=Lib.hid hr9
 have HGE:=Lib.hid hge
 obtain ⟨Q,hQ⟩:∃ Q,RNextP s room most w p G=Q:=⟨_,rfl⟩
 have HQ:Hid (∀ e w',RNextP s room most w p G e w'→Q e w'):=fun e w' hq=>by rw [← hQ];exact hq
 rw [hQ]
 have HOK:=Lib.hid hok
 have HLN:=Lib.hid (edges_len hok)
 have HM:=Lib.hid hM
 have HG:=Lib.hid hg1
 have HW:=Lib.hid hw1
 have HGG:=Lib.hid hg
 have HHH:=Lib.hid hh
 have HA:=Lib.hid ha
 have HZL:=Lib.hid (And.intro hzl hzlf)
 clear h hok hh hM hg1 hw1 hg hen' hr9 hL1 hm hQ hbn hmc hge hlf hz ha hzl hzlf hu hl hc0 hen
 go_enter Try.func26,Try.ntmps26
 go_wp2_with fail
 rw [HW.out,HGG.out]
 go_loopw [9] (fun i wr=>∃ j:Nat,j≤m∧i=.int .i64 j∧Hid (Below w1.heap.size w1 wr)) (fun i _=>m - (intOf i).toNat)
 case atStart=>exact ⟨0,Nat.zero_le _,rfl,Below.refl _ _⟩
 case round =>
  clear hc3 hc9
  obtain ⟨j,hj,rfl,HBR⟩:=hrel
  obtain ⟨_,_,_,hc3,_,_,_,_,_,hc9,_⟩:=(HM.out.st.below HBR.out).cells
  rw [HU.out] at hc3
  by_cases hlt:j<m
  ·have hlti:(j:Int)<(m:Int):=by omega
   obtain ⟨bb,oo,hA,hbb,hcs⟩:=HR.out.2 (by omega)
   subst hA
   have hl1:2 * j+1<s.lost.length:=by have:=HML.out;omega
   obtain ⟨x,hx⟩:∃ x,s.lost.getD (2 * j) 0=x:=⟨_,rfl⟩
   obtain ⟨y,hy⟩:∃ x,s.lost.getD (2 * j+1) 0=x:=⟨_,rfl⟩
   have hcx:wr.cell? ⟨bb,oo+j * 2,none⟩=some (.int .i64 x):=by
    rw [HBR.out.cell (p:=⟨bb,oo+j * 2,none⟩) hbb,show oo+j * 2=oo+2 * j by omega,hcs (2 * j) _ (ints_get s.lost _ (by omega)),hx]
   have hcy:wr.cell? ⟨bb,oo+j * 2+1,none⟩=some (.int .i64 y):=by
    rw [HBR.out.cell (p:=⟨bb,oo+j * 2+1,none⟩) hbb,show oo+j * 2+1=oo+(2 * j+1) by omega,hcs (2 * j+1) _ (ints_get s.lost _ (by omega)),hy]
   have hxe:en≤x:=by rw [← hx];exact HGE.out _ (by omega)
   clear hcs hx hy
   go_upto_region 5 with (fail)
   obtain ⟨wx,hwx⟩:∃ z,wr.alloc (.cells #[.int .i64 x,.int .i64 y] 88)=z:=⟨_,rfl⟩
   obtain ⟨bx,hbx⟩:∃ z,wr.heap.size=z:=⟨_,rfl⟩
   have HBX:Hid (Below w1.heap.size w1 wx):=by rw [← hwx];exact HBR.out.alloc HBR.out.size _
   have HXC:Hid (wx.heap[bx]?=some (.cells #[.int .i64 x,.int .i64 y] 88 (0,0))):=by rw [← hwx,← hbx];exact heap_alloc_new wr _
   rw [hwx,hbx]
   clear hwx hcx hcy hc9 hc3
   have x0:=cell_slot (o:=0) HXC.out rfl
   have HMY:Hid (∀ n,Calls Try.prog 70 #[.pointer (some ⟨p,0,none⟩)] (wx.drewN n) fun e w'=>e=.returned (.int .i64 en)∧w'=wx.drewN n):=fun n=>HMAY.out _ (below_nq HBX.out n)
   go_quiet ((go_at_call 70;exact Calls.quiet_of_same (HMY.out _)))
   have HN:Hid (Below w1.heap.size w1 (wx.drewN nq)):=below_nq HBX.out _
   go_wp2_with fail
   go_roundw
   case rel=>exact ⟨j+1,by omega,by go_num,HN⟩
   case measure=>simp [intOf];omega
  ·have hlti:¬ (j:Int)<(m:Int):=by omega
   obtain rfl:j=m:=by omega
   go_upto_region 13 with (fail)
   have HMY:Hid (∀ n,Calls Try.prog 70 #[.pointer (some ⟨p,0,none⟩)] (wr.drewN n) fun e w'=>e=.returned (.int .i64 en)∧w'=wr.drewN n):=fun n=>HMAY.out _ (below_nq HBR.out n)
   have HLY:Hid (∀ n,Calls Try.prog 31 #[.pointer (some ⟨p,2,none⟩)] (wr.drewN n) fun e w'=>e=.returned (.int .i64 lf)∧∃ q,w'=(wr.drewN n).drewN q):=fun n=>HLE.out _ (below_nq HBR.out n)
   go_quiet ((first | (go_at_call 70;exact Calls.quiet_of_same (HMY.out _)) | (go_at_call 31;exact Calls.quiet_of (HLY.out _))))
   obtain ⟨w2,hw2⟩:∃ z,wr.drewN nq=z:=⟨_,rfl⟩
   have HB2:Hid (Below w1.heap.size w1 w2):=by rw [← hw2];exact below_nq HBR.out _
   rw [hw2]
   clear hw2 hc3 hc9 HMY HLY HMAY HLE hmin3
   have HM2:=Lib.hid (HM.out.below HB2.out)
   have HG2:Hid (w2.heap[g]?=some (.cells #[.int .i64 0,.int .i64 0,.int .i64 0,.int .i64 0,.int .i64 0,.int .i64 0,.bool false,.slice none 0 0,.slice none 0 0] 54 (0,0))):=(HB2.out.block g (lt_of_block HG.out)).trans HG.out
   by_cases hz0:0<z
   ·have hfr:=HFR.out w2 HB2.out hz0
    rw [HU.out] at hfr
    have HFC:=Lib.hid hfr
    clear hfr HFR
    go_wp2_with fail
    refine HFC.out.mono ?_
    rintro e w5 hq
    obtain ⟨hb5,kk,kid,a2,nn,fin,ok,A5,c5,rfl,hok0,hok1,ho5⟩:=rframe_one hq
    have HB5:=Lib.hid hb5
    have HO5:Hid (w5.ownsRow w2.heap.size 5 1 (.slice A5 nn c5) nn (bv ((s.bs.drop a).take nn))):=by
     have:u.toNat=a:=by have:=HA.out;rw [HU.out] at this;omega
     rw [this] at ho5
     exact ho5
    clear hq hb5 ho5 HFC
    go_upto_region 16 with (fail)
    obtain ⟨wc,hwc⟩:∃ x,w5.alloc (.cells #[.int .i64 kk,.int .i64 kid,.int .i64 a2,.int .i64 0,.int .i64 0,.int .i64 0,.bool fin,.slice A5 nn c5,.slice none 0 0] 54)=x:=⟨_,rfl⟩
    obtain ⟨gx,hgx⟩:∃ x,w5.heap.size=x:=⟨_,rfl⟩
    have HBC:Hid (Below w2.heap.size w2 wc):=by rw [← hwc];exact HB5.out.alloc HB5.out.size _
    have HFC:Hid (FrB wc gx kk kid a2 0 0 0 fin A5 nn c5 none 0 0):=by rw [← hwc,← hgx];exact heap_alloc_new w5 _
    have HOC:Hid (wc.ownsRow w2.heap.size 5 1 (.slice A5 nn c5) nn (bv ((s.bs.drop a).take nn))):=by rw [← hwc];exact HO5.out.alloc _
    have HGX:Hid (w2.heap.size≤gx):=by rw [← hgx];exact HB5.out.size
    rw [hwc,hgx]
    clear hwc hgx HB5 HO5
    have HMC:=Lib.hid (HM2.out.below HBC.out)
    have HG5:Hid (wc.heap[g]?=some (.cells #[.int .i64 0,.int .i64 0,.int .i64 0,.int .i64 0,.int .i64 0,.int .i64 0,.bool false,.slice none 0 0,.slice none 0 0] 54 (0,0))):=(HBC.out.block g (lt_of_block HG2.out)).trans HG2.out
    have HFP:Hid (gx≠p):=fun e=>by have h1:=HGX.out;have h2:=HM.out.st.hG p HM.out.st.pG;have h3:=HB2.out.size;omega
    cases ok
    ·have HK0:=Lib.hid (hok0 rfl)
     clear hok0 hok1
     have z0:=cell_slot (o:=0) HG5.out rfl
     have f0:=free_slot (o:=0) HG5.out
     have z1:=cell_slot (o:=1) HG5.out rfl
     have f1:=free_slot (o:=1) HG5.out
     have z2:=cell_slot (o:=2) HG5.out rfl
     have f2:=free_slot (o:=2) HG5.out
     have z3:=cell_slot (o:=3) HG5.out rfl
     have f3:=free_slot (o:=3) HG5.out
     have z4:=cell_slot (o:=4) HG5.out rfl
     have f4:=free_slot (o:=4) HG5.out
     have z5:=cell_slot (o:=5) HG5.out rfl
     have f5:=free_slot (o:=5) HG5.out
     have z6:=cell_slot (o:=6) HG5.out rfl
     have f6:=free_slot (o:=6) HG5.out
     have z7:=cell_slot (o:=7) HG5.out rfl
     have f7:=free_slot (o:=7) HG5.out
     have z8:=cell_slot (o:=8) HG5.out rfl
     have f8:=free_slot (o:=8) HG5.out
     go_wp2_with fail
     refine ret_three rfl _ _ g 54 _ _ _ _ _ _ _ _ _ _ _ _ rfl rfl rfl (nine_heap HG5.out _ _ _ _ _ _ _ _ _) Try.underlying54 rfl (by kernel_rfl) ?_
     have HF0:finS s u 0=false:=by
      unfold finS
      have h1:=HZL.out.1
      have h2:=HENL.out
      have h3:=HU.out
      rw [decide_eq_false (by omega)]
      simp
     refine HQ.out _ _ (.inl ⟨next_K0 HOK.out (by rw [← HU.out];exact (HDU.out hz0).1) (HDU.out hz0).2 HK0.out HF0,rfl,?_⟩)
     exact (((((((((HMC.out.set 0 _).set 1 _).set 2 _).set 3 _).set 4 _).set 5 _).set 6 _).set 7 _).set 8 _).to
    ·obtain ⟨rfl,rfl,rfl,hnn,hnK,hfn⟩:=hok1 rfl
     have HKI:=Lib.hid (fitK_in s a2 z room (by omega))
     have HNK:=Lib.hid hnK
     have HFI:=Lib.hid hfn
     have HNN:=Lib.hid hnn
     have hnI:(nn:Int)≤120:=by have:=HKI.out;omega
     clear hok0 hok1 hnK hfn
     go_upto_region 18 with (fail)
     refine still_tail 6 (by kernel_rfl) (by kernel_rfl) ?_
     intro wz hwz
     have hwz2:wz=wc.drewN 1:=hwz
     have HMZ:=Lib.hid (HMC.out.drewN 1)
     have HFZ:Hid (FrB (wc.drewN 1) gx 3 s.id a2 0 0 0 fin A5 nn c5 none 0 0):=HFC.out
     have HGZ:Hid ((wc.drewN 1).heap[g]?=some (.cells #[.int .i64 0,.int .i64 0,.int .i64 0,.int .i64 0,.int .i64 0,.int .i64 0,.bool false,.slice none 0 0,.slice none 0 0] 54 (0,0))):=HG5.out
     have HOZ:Hid ((wc.drewN 1).ownsRow w2.heap.size 5 1 (.slice A5 nn c5) nn (bv ((s.bs.drop a).take nn))):=HOC.out
     rw [← hwz2] at HMZ HFZ HGZ HOZ
     clear hwz hwz2 HMC HFC HG5 HOC
     obtain ⟨y0,y1,y2,y3,y4,y5,y6,y7,y8⟩:=HFZ.out.cells
     simp only [List.take_succ_cons,List.take_zero,List.drop_succ_cons,List.drop_zero]
     iterate 6 still_step
     refine wpStill_nil ?_
     go_wp2_with fail
     have HUB:Hid (Cr.useB s.l s.u (nn:Int)=true):=by
      show Cr.useB s.l s.u (nn:Int)=true
      unfold Cr.useB
      exact decide_eq_true ⟨by omega,by rw [← HLFB.out];have:=HKI.out;have:=HNK.out;have:=HZL.out.2;omega⟩
     have hus:=Cr.ruse_any HMZ.out.st.cred ⟨by have:=HOK.out.u;omega,by have:=HOK.out.l;omega⟩ ⟨HOK.out.u.1,by have:=HOK.out.u;have:=HOK.out.l;omega⟩ (nn:Int)
     rw [HUB.out,if_pos rfl] at hus
     refine hus.mono ?_
     rintro e w4 ⟨rfl,hcr⟩
     have hs4:=HMZ.out.st.toCred hcr
     have hk4:Kept [p] wz w4:=by obtain ⟨_,_,_,_,_,hk,_⟩:=hs4;exact hk
     have HF4:Hid (FrB w4 gx 3 s.id a2 0 0 0 fin A5 nn c5 none 0 0):=(hk4.block gx (lt_of_block HFZ.out) (by simp;exact HFP.out)).trans HFZ.out
     have HOP:Hid (∀ q ∈ fp (.slice A5 nn c5),q≠p):=fun q hq e=>by have h1:=(HOZ.out.lt q (fp_own.1 hq)).1;have h2:=HM.out.st.hG p HM.out.st.pG;have h3:=HB2.out.size;omega
     have HO4:Hid (w4.ownsRow w2.heap.size 5 1 (.slice A5 nn c5) nn (bv ((s.bs.drop a).take nn))):=own_kept HOZ.out hk4 (fun q hq=>by simpa using HOP.out q hq)
     obtain ⟨⟨G4,a4,b4,c4,hm4⟩,hg4⟩:=HMZ.out.then (lt_of_block HGZ.out) hs4
     have HM4:=Lib.hid hm4
     have HG4:Hid (w4.heap[g]?=some (.cells #[.int .i64 0,.int .i64 0,.int .i64 0,.int .i64 0,.int .i64 0,.int .i64 0,.bool false,.slice none 0 0,.slice none 0 0] 54 (0,0))):=hg4.trans HGZ.out
     clear hus hcr hs4 hm4 hg4 hk4 HMZ HFZ HGZ HOZ y0 y1 y2 y3 y4 y5 y6 y7 y8
     obtain ⟨y0,y1,y2,y3,y4,y5,y6,y7,y8⟩:=HF4.out.cells
     go_upto_region 19 with (fail)
     have HTO:=Lib.hid (rtold_st HM4.out.st HOK.out.fin fin)
     go_wp2_with fail
     refine HTO.out.mono ?_
     rintro e w6 ⟨rfl,hs5⟩
     have hk5:Kept [p] w4 w6:=by obtain ⟨_,_,_,_,_,hk,_⟩:=hs5;exact hk
     have HF5:Hid (FrB w6 gx 3 s.id a2 0 0 0 fin A5 nn c5 none 0 0):=(hk5.block gx (lt_of_block HF4.out) (by simp;exact HFP.out)).trans HF4.out
     have HO5:Hid (w6.ownsRow w2.heap.size 5 1 (.slice A5 nn c5) nn (bv ((s.bs.drop a).take nn))):=own_kept HO4.out hk5 (fun q hq=>by simpa using HOP.out q hq)
     obtain ⟨⟨G5,a5,b5,c5',hm5⟩,hg5⟩:=HM4.out.then (lt_of_block HG4.out) hs5
     have HM5:=Lib.hid hm5
     have HG5:Hid (w6.heap[g]?=some (.cells #[.int .i64 0,.int .i64 0,.int .i64 0,.int .i64 0,.int .i64 0,.int .i64 0,.bool false,.slice none 0 0,.slice none 0 0] 54 (0,0))):=hg5.trans HG4.out
     clear hs5 hm5 hg5 hk5 HM4 HF4 HG4 HO4 HTO y0 y1 y2 y3 y4 y5 y6 y7 y8
     go_upto_region 20 with (fail)
     have HGN:Hid (gx≠g):=fun e=>by have h1:=HGX.out;have h2:=lt_of_block HG2.out;omega
     have HFD:Hid (FrB w6.drew gx 3 s.id a2 0 0 0 fin A5 nn c5 none 0 0):=HF5.out
     have HGD:Hid (w6.drew.heap[g]?=some (.cells #[.int .i64 0,.int .i64 0,.int .i64 0,.int .i64 0,.int .i64 0,.int .i64 0,.bool false,.slice none 0 0,.slice none 0 0] 54 (0,0))):=HG5.out
     have HS20:Hid (∀ W:World,FrB W gx 3 s.id a2 0 0 0 fin A5 nn c5 none 0 0→(W.cell? ⟨gx,0,none⟩=some (.int .i64 3)∧W.cell? ⟨gx,1,none⟩=some (.int .i64 s.id)∧W.cell? ⟨gx,2,none⟩=some (.int .i64 a2)∧W.cell? ⟨gx,3,none⟩=some (.int .i64 0)∧W.cell? ⟨gx,4,none⟩=some (.int .i64 0)∧W.cell? ⟨gx,5,none⟩=some (.int .i64 0)∧W.cell? ⟨gx,6,none⟩=some (.bool fin)∧W.cell? ⟨gx,7,none⟩=some (.slice A5 nn c5)∧W.cell? ⟨gx,8,none⟩=some (.slice none 0 0))):=fun W hW=>hW.cells
     refine wp_region_held_drew (S:=(fun W:World=>W.cell? ⟨gx,0,none⟩=some (.int .i64 3)∧W.cell? ⟨gx,1,none⟩=some (.int .i64 s.id)∧W.cell? ⟨gx,2,none⟩=some (.int .i64 a2)∧W.cell? ⟨gx,3,none⟩=some (.int .i64 0)∧W.cell? ⟨gx,4,none⟩=some (.int .i64 0)∧W.cell? ⟨gx,5,none⟩=some (.int .i64 0)∧W.cell? ⟨gx,6,none⟩=some (.bool fin)∧W.cell? ⟨gx,7,none⟩=some (.slice A5 nn c5)∧W.cell? ⟨gx,8,none⟩=some (.slice none 0 0))) (by kernel_rfl) ?_ (fun hHeld=>?_)
     ·exact HS20.out _ HFD.out
     refine wpAnyH_take (i:=0) (v:=?_) rfl (by kernel_rfl) (by kernel_rfl) (by kernel_rfl) (fun _ _ _ h=>h) (Or.inl ⟨by rfl,?_⟩) (by assumption) ?_
     rotate_left
     ·intro w hSw;(try dsimp only at hSw);go_simp;try with_reducible rfl
     go_simp
     refine wpAnyH_take (i:=1) (v:=?_) rfl (by kernel_rfl) (by kernel_rfl) (by kernel_rfl) (fun _ _ _ h=>h) (Or.inl ⟨by rfl,?_⟩) (by assumption) ?_
     rotate_left
     ·intro w hSw;(try dsimp only at hSw);go_simp;try with_reducible rfl
     go_simp
     refine wpAnyH_take (i:=2) (v:=?_) rfl (by kernel_rfl) (by kernel_rfl) (by kernel_rfl) (fun _ _ _ h=>h) (Or.inl ⟨by rfl,?_⟩) (by assumption) ?_
     rotate_left
     ·intro w hSw;(try dsimp only at hSw);go_simp;try with_reducible rfl
     go_simp
     refine wpAnyH_take (i:=3) (v:=?_) rfl (by kernel_rfl) (by kernel_rfl) (by kernel_rfl) (fun _ _ _ h=>h) (Or.inl ⟨by rfl,?_⟩) (by assumption) ?_
     rotate_left
     ·intro w hSw;(try dsimp only at hSw);go_simp;try with_reducible rfl
     go_simp
     refine wpAnyH_ready (rs:=[4]) (by kernel_rfl) (by simp) ?_
     refine AllReadyH.cons rfl (fun K hK=>?_) AllReadyH.nil
     obtain ⟨wy,hwy⟩:∃ x,w6.drew=x:=⟨_,rfl⟩
     have HGY:Hid (wy.heap[g]?=some (.cells #[.int .i64 0,.int .i64 0,.int .i64 0,.int .i64 0,.int .i64 0,.int .i64 0,.bool false,.slice none 0 0,.slice none 0 0] 54 (0,0))):=by rw [← hwy];exact HG5.out
     have HFY:Hid (FrB wy gx 3 s.id a2 0 0 0 fin A5 nn c5 none 0 0):=by rw [← hwy];exact HF5.out
     have HMY:Hid (RMid w wy p g G G5 a5 b5 c5' ⟨s.l,s.u+(nn:Int),s.id,s.bs,s.lost,s.came,s.fd,if fin=true then tellN s.fin else s.fin,s.rs,s.code,s.sure,s.br⟩):=by rw [← hwy];exact HM5.out.drewN 1
     have HOY:Hid (wy.ownsRow w2.heap.size 5 1 (.slice A5 nn c5) nn (bv ((s.bs.drop a).take nn))):=by rw [← hwy];exact HO5.out
     rw [hwy]
     clear hwy HM5 HF5 HG5 HO5 HFD HGD
     have z0:=cell_slot (o:=0) HGY.out rfl
     have f0:=free_slot (o:=0) HGY.out
     have z1:=cell_slot (o:=1) HGY.out rfl
     have f1:=free_slot (o:=1) HGY.out
     have z2:=cell_slot (o:=2) HGY.out rfl
     have f2:=free_slot (o:=2) HGY.out
     have z3:=cell_slot (o:=3) HGY.out rfl
     have f3:=free_slot (o:=3) HGY.out
     have z4:=cell_slot (o:=4) HGY.out rfl
     have f4:=free_slot (o:=4) HGY.out
     have z5:=cell_slot (o:=5) HGY.out rfl
     have f5:=free_slot (o:=5) HGY.out
     have z6:=cell_slot (o:=6) HGY.out rfl
     have f6:=free_slot (o:=6) HGY.out
     have z7:=cell_slot (o:=7) HGY.out rfl
     have f7:=free_slot (o:=7) HGY.out
     have z8:=cell_slot (o:=8) HGY.out rfl
     have f8:=free_slot (o:=8) HGY.out
     go_simp
     refine hK.out _ _ ?_ (fun hHeld=>?_)
     ·exact HS20.out _ (FrB.far (FrB.far (FrB.far (FrB.far (FrB.far (FrB.far (FrB.far (FrB.far (FrB.far HFY.out HGN.out 0 _) HGN.out 1 _) HGN.out 2 _) HGN.out 3 _) HGN.out 4 _) HGN.out 5 _) HGN.out 6 _) HGN.out 7 _) HGN.out 8 _)
     clear hK K
     go_simp
     refine wpAnyH_take (i:=5) (v:=?_) rfl (by kernel_rfl) (by kernel_rfl) (by kernel_rfl) (fun _ _ _ h=>h) (Or.inl ⟨by rfl,?_⟩) (by assumption) ?_
     rotate_left
     ·intro w hSw;(try dsimp only at hSw);go_simp;try with_reducible rfl
     go_simp
     refine wpAnyH_take (i:=6) (v:=?_) rfl (by kernel_rfl) (by kernel_rfl) (by kernel_rfl) (fun _ _ _ h=>h) (Or.inl ⟨by rfl,?_⟩) (by assumption) ?_
     rotate_left
     ·intro w hSw;(try dsimp only at hSw);go_simp;try with_reducible rfl
     go_simp
     refine wpAnyH_done (by kernel_rfl) ?_ _
     clear z0 z1 z2 z3 z4 z5 z6 z7 z8 f0 f1 f2 f3 f4 f5 f6 f7 f8
     go_wp2_with fail
     refine ret_three rfl _ _ g 54 _ _ _ _ _ _ _ _ _ _ _ _ rfl rfl rfl (nine_heap HGY.out _ _ _ _ _ _ _ _ _) Try.underlying54 rfl (by kernel_rfl) ?_
     have HAU:Hid (a2=(a:Int)):=by rw [← HA.out,HU.out];rfl
     have hmx:max (a2+(nn:Int) - s.u) 0=(nn:Int):=by rw [HU.out];omega
     have HNI:NextI s room most a2 (nn:Int) fin (nn:Int):=by
      have:=next_K (s:=s) (room:=room) (most:=most) (a:=a2) (N:=z) (by rw [← HU.out];exact (HDU.out hz0).1) (HDU.out hz0).2 (by rw [← HNK.out];have:=HNN.out;omega)
      rw [← HNK.out,← HFI.out,hmx] at this
      exact this
     rw [HAU.out] at HNI ⊢
     refine HQ.out _ _ (.inr ⟨a,nn,fin,(nn:Int),A5,c5,HNI,rfl,?_,?_⟩)
     ·have HPS:putS s (a:Int) (nn:Int) fin (nn:Int)=⟨s.l,s.u+(nn:Int),s.id,s.bs,s.lost,s.came,s.fd,if fin=true then tellN s.fin else s.fin,s.rs,s.code,s.sure,s.br⟩:=by
       unfold putS
       rw [turn_above HOK.out.lost (u:=(a:Int)) (fun e he=>by rw [← HA.out];exact HOK.out.lostU e he) (by omega) (by omega) (by have:=HOK.out.u;have:=HOK.out.n;have:=HA.out;omega)]
      rw [HPS]
      exact (((((((((HMY.out.set 0 _).set 1 _).set 2 _).set 3 _).set 4 _).set 5 _).set 6 _).set 7 _).set 8 _).to
     ·have hog:∀ q ∈ fp (.slice A5 nn c5),q≠g:=fun q hq e=>by
       have h1:=(HOY.out.lt q (fp_own.1 hq)).1
       have h2:=lt_of_block HG.out
       have h3:=HB2.out.size
       omega
      exact rd_own1 (nine_own HOY.out hog _ _ _ _ _ _ _ _ _)
   ·have HF:=Lib.hid (HFN.out (by omega))
    clear HFN HDU HFR
    have HS21:Hid (∀ W,Below w2.heap.size w2 W→(Below w2.heap.size w2 W∧W.cell? ⟨p,0,none⟩=some (.int .i64 s.id)∧W.cell? ⟨p,1,none⟩=some (.slice Av s.bs.length cv))):=fun W hW=>by
     obtain ⟨c0,c1,_⟩:=(HM2.out.st.below hW).cells
     exact ⟨hW,c0,c1⟩
    go_upto_region 21 with (fail)
    refine wp_region_held_drew (S:=(fun W:World=>Below w2.heap.size w2 W∧W.cell? ⟨p,0,none⟩=some (.int .i64 s.id)∧W.cell? ⟨p,1,none⟩=some (.slice Av s.bs.length cv))) (by kernel_rfl) ?_ (fun hHeld=>?_)
    ·exact HS21.out _ ((Below.refl w2.heap.size w2).drew)
    refine wpAnyH_take (i:=0) (v:=?_) rfl (by kernel_rfl) (by kernel_rfl) (by kernel_rfl) (fun _ _ _ h=>h) (Or.inl ⟨by rfl,?_⟩) (by assumption) ?_
    rotate_left
    ·intro w hSw;(try dsimp only at hSw);go_simp;try with_reducible rfl
    go_simp
    refine wpAnyH_take (i:=1) (v:=?_) rfl (by kernel_rfl) (by kernel_rfl) (by kernel_rfl) (fun _ _ _ h=>h) (Or.inl ⟨by rfl,?_⟩) (by assumption) ?_
    rotate_left
    ·intro w hSw;(try dsimp only at hSw);go_simp;try with_reducible rfl
    go_simp
    refine wpAnyH_take (i:=2) (v:=?_) rfl (by kernel_rfl) (by kernel_rfl) (by kernel_rfl) (fun _ _ _ h=>h) (Or.inl ⟨by rfl,?_⟩) (by assumption) ?_
    rotate_left
    ·intro w hSw;(try dsimp only at hSw);go_simp;try with_reducible rfl
    go_simp
    refine wpAnyH_take (i:=3) (v:=?_) rfl (by kernel_rfl) (by kernel_rfl) (by kernel_rfl) (fun _ _ _ h=>h) (Or.inl ⟨by rfl,?_⟩) (by assumption) ?_
    rotate_left
    ·intro w hSw;(try dsimp only at hSw);go_simp;try with_reducible rfl
    go_simp
    refine wpAnyH_take (i:=4) (v:=?_) rfl (by kernel_rfl) (by kernel_rfl) (by kernel_rfl) (fun _ _ _ h=>h) (Or.inl ⟨by rfl,?_⟩) (by assumption) ?_
    rotate_left
    ·intro w hSw;(try dsimp only at hSw);go_simp;try with_reducible rfl
    go_simp
    refine wpAnyH_take (i:=5) (v:=?_) rfl (by kernel_rfl) (by kernel_rfl) (by kernel_rfl) (fun _ _ _ h=>h) (Or.inl ⟨by rfl,?_⟩) (by assumption) ?_
    rotate_left
    ·intro w hSw;(try dsimp only at hSw);go_simp;try with_reducible rfl
    go_simp
    refine wpAnyH_take (i:=6) (v:=?_) rfl (by kernel_rfl) (by kernel_rfl) (by kernel_rfl) (fun _ _ _ h=>h) (Or.inl ⟨by rfl,?_⟩) (by assumption) ?_
    rotate_left
    ·intro w hSw;(try dsimp only at hSw);go_simp;try with_reducible rfl
    go_simp
    refine wpAnyH_take (i:=7) (v:=?_) rfl (by kernel_rfl) (by kernel_rfl) (by kernel_rfl) (fun _ _ _ h=>h) (Or.inl ⟨by rfl,?_⟩) (by assumption) ?_
    rotate_left
    ·intro w hSw;(try dsimp only at hSw);go_simp;try with_reducible rfl
    go_simp
    refine wpAnyH_take (i:=8) (v:=?_) rfl (by kernel_rfl) (by kernel_rfl) (by kernel_rfl) (fun _ _ _ h=>h) (Or.inl ⟨by rfl,?_⟩) (by assumption) ?_
    rotate_left
    ·intro w hSw;(try dsimp only at hSw);go_simp;try with_reducible rfl
    go_simp
    refine wpAnyH_take (i:=9) (v:=?_) rfl (by kernel_rfl) (by kernel_rfl) (by kernel_rfl) (fun _ _ _ h=>h) (Or.inl ⟨by rfl,?_⟩) (by assumption) ?_
    rotate_left
    ·intro w hSw;(try dsimp only at hSw);go_simp;try with_reducible rfl
    go_simp
    refine wpAnyH_ready (rs:=[10]) (by kernel_rfl) (by simp) ?_
    refine AllReadyH.cons rfl (fun K hK=>?_) AllReadyH.nil
    go_simp
    refine hK.out _ _ ?_ (fun hHeld=>?_)
    ·exact HS21.out _ (((Below.refl w2.heap.size w2).drew).alloc (Nat.le_refl _) _)
    clear hK K
    go_simp
    refine wpAnyH_ready (rs:=[11]) (by kernel_rfl) (by simp) ?_
    refine AllReadyH.cons rfl (fun K hK=>?_) AllReadyH.nil
    go_simp
    refine hK.out _ _ ?_ (fun hHeld=>?_)
    ·exact HS21.out _ (((Below.refl w2.heap.size w2).drew).alloc (Nat.le_refl _) _)
    clear hK K
    go_simp
    refine wpAnyH_done (by kernel_rfl) ?_ _
    obtain ⟨wx,hwx⟩:∃ x,(w2.alloc (.cells #[.int .i64 3,.int .i64 s.id,.int .i64 (s.bs.length:Int),.int .i64 0,.int .i64 0,.int .i64 0,.bool true,.slice none 0 0,.slice none 0 0] 54)).drew=x:=⟨_,rfl⟩
    obtain ⟨gx,hgx⟩:∃ x,w2.heap.size=x:=⟨_,rfl⟩
    have HBX:Hid (Below w2.heap.size w2 wx):=by rw [← hwx];exact ((Below.refl _ _).alloc (Nat.le_refl _) _).drew
    have HXX:Hid (FrB wx gx 3 s.id (s.bs.length:Int) 0 0 0 true none 0 0 none 0 0):=by rw [← hwx,← hgx];exact heap_alloc_new w2 _
    have HFP:Hid (gx≠p):=fun e=>by have h2:=HM.out.st.hG p HM.out.st.pG;have h3:=HB2.out.size;omega
    rw [hwx,hgx]
    clear hwx hgx HS21
    have HMX:=Lib.hid (HM2.out.below HBX.out)
    have HGX2:Hid (wx.heap[g]?=some (.cells #[.int .i64 0,.int .i64 0,.int .i64 0,.int .i64 0,.int .i64 0,.int .i64 0,.bool false,.slice none 0 0,.slice none 0 0] 54 (0,0))):=(HBX.out.block g (lt_of_block HG2.out)).trans HG2.out
    obtain ⟨_,hc1,_,_,hc4,hc5,_,_,_,_,hc10,_⟩:=HMX.out.st.cells
    cases hfd:s.fd
    ·rw [hfd] at hc4
     have z0:=cell_slot (o:=0) HGX2.out rfl
     have f0:=free_slot (o:=0) HGX2.out
     have z1:=cell_slot (o:=1) HGX2.out rfl
     have f1:=free_slot (o:=1) HGX2.out
     have z2:=cell_slot (o:=2) HGX2.out rfl
     have f2:=free_slot (o:=2) HGX2.out
     have z3:=cell_slot (o:=3) HGX2.out rfl
     have f3:=free_slot (o:=3) HGX2.out
     have z4:=cell_slot (o:=4) HGX2.out rfl
     have f4:=free_slot (o:=4) HGX2.out
     have z5:=cell_slot (o:=5) HGX2.out rfl
     have f5:=free_slot (o:=5) HGX2.out
     have z6:=cell_slot (o:=6) HGX2.out rfl
     have f6:=free_slot (o:=6) HGX2.out
     have z7:=cell_slot (o:=7) HGX2.out rfl
     have f7:=free_slot (o:=7) HGX2.out
     have z8:=cell_slot (o:=8) HGX2.out rfl
     have f8:=free_slot (o:=8) HGX2.out
     go_wp2_with fail
     refine ret_three rfl _ _ g 54 _ _ _ _ _ _ _ _ _ _ _ _ rfl rfl rfl (nine_heap HGX2.out _ _ _ _ _ _ _ _ _) Try.underlying54 rfl (by kernel_rfl) ?_
     refine HQ.out _ _ (.inl ⟨?_,rfl,(((((((((HMX.out.set 0 _).set 1 _).set 2 _).set 3 _).set 4 _).set 5 _).set 6 _).set 7 _).set 8 _).to⟩)
     rw [HF.out]
     split
     ·rfl
     ·rw [if_neg (fun h=>?_)]
      have:=h.1;unfold finS at this;rw [hfd] at this;simp at this
    ·rw [hfd] at hc4
     cases hrs:s.rs
     ·rw [hrs] at hc5
      by_cases hul:s.u=(s.bs.length:Int)
      ·have HUL:=Lib.hid hul
       have hul2:u=(s.bs.length:Int):=by rw [← HU.out];exact hul
       have hune:(u != (s.bs.length:Int))=false:=by rw [hul2];simp
       cases hft:ftN s.fin
       ·rw [hft] at hc10
        obtain ⟨ba,hba⟩:∃ x,bareS s s.u=x:=⟨_,rfl⟩
        have HBA:=Lib.hid hba
        have HSV:Hid (2+(wid s.id:Int)+(wid (s.bs.length:Int):Int)+(wid ((0:Nat):Int):Int)+((0:Nat):Int)=ba):=by
         show _=_
         rw [← hba]
         unfold bareS
         rw [hul]
         show 2+(wid s.id:Int)+(wid (s.bs.length:Int):Int)+1+0=_
         omega
        clear hba
        have HSZ:=Lib.hid (rfsz_st s.id (s.bs.length:Int) true [] none 0 0 wx HOK.out.id (by have:=HOK.out.n;omega) (Rd.nil _ _ _) (by omega))
        rw [HSV.out] at HSZ
        obtain ⟨y0,y1,y2,y3,y4,y5,y6,y7,y8⟩:=HXX.out.cells
        go_wp2_with fail
        refine HSZ.out.mono ?_
        rintro e w8 ⟨rfl,hb8⟩
        have HM8:=Lib.hid (HMX.out.below hb8)
        have HG8:Hid (w8.heap[g]?=some (.cells #[.int .i64 0,.int .i64 0,.int .i64 0,.int .i64 0,.int .i64 0,.int .i64 0,.bool false,.slice none 0 0,.slice none 0 0] 54 (0,0))):=(hb8.block g (lt_of_block HGX2.out)).trans HGX2.out
        have HX8:Hid (FrB w8 gx 3 s.id (s.bs.length:Int) 0 0 0 true none 0 0 none 0 0):=(hb8.block gx (lt_of_block HXX.out)).trans HXX.out
        clear hb8 y0 y1 y2 y3 y4 y5 y6 y7 y8 HSZ
        by_cases hsz:room<ba
        ·skip
         have z0:=cell_slot (o:=0) HG8.out rfl
         have f0:=free_slot (o:=0) HG8.out
         have z1:=cell_slot (o:=1) HG8.out rfl
         have f1:=free_slot (o:=1) HG8.out
         have z2:=cell_slot (o:=2) HG8.out rfl
         have f2:=free_slot (o:=2) HG8.out
         have z3:=cell_slot (o:=3) HG8.out rfl
         have f3:=free_slot (o:=3) HG8.out
         have z4:=cell_slot (o:=4) HG8.out rfl
         have f4:=free_slot (o:=4) HG8.out
         have z5:=cell_slot (o:=5) HG8.out rfl
         have f5:=free_slot (o:=5) HG8.out
         have z6:=cell_slot (o:=6) HG8.out rfl
         have f6:=free_slot (o:=6) HG8.out
         have z7:=cell_slot (o:=7) HG8.out rfl
         have f7:=free_slot (o:=7) HG8.out
         have z8:=cell_slot (o:=8) HG8.out rfl
         have f8:=free_slot (o:=8) HG8.out
         go_wp2_with fail
         refine ret_three rfl _ _ g 54 _ _ _ _ _ _ _ _ _ _ _ _ rfl rfl rfl (nine_heap HG8.out _ _ _ _ _ _ _ _ _) Try.underlying54 rfl (by kernel_rfl) ?_
         refine HQ.out _ _ (.inl ⟨?_,rfl,(((((((((HM8.out.set 0 _).set 1 _).set 2 _).set 3 _).set 4 _).set 5 _).set 6 _).set 7 _).set 8 _).to⟩)
         rw [HF.out]
         rw [if_pos (by rw [HBA.out];exact hsz)]
        ·have HTO:=Lib.hid (rtold_st HM8.out.st HOK.out.fin true)
         go_wp2_with fail
         refine HTO.out.mono ?_
         rintro e w9 ⟨rfl,hs9⟩
         have hk9:Kept [p] w8 w9:=by obtain ⟨_,_,_,_,_,hk,_⟩:=hs9;exact hk
         have HX9:Hid (FrB w9 gx 3 s.id (s.bs.length:Int) 0 0 0 true none 0 0 none 0 0):=(hk9.block gx (lt_of_block HX8.out) (by simp;exact HFP.out)).trans HX8.out
         obtain ⟨⟨G9,a9,b9,c9',hm9⟩,hg9⟩:=HM8.out.then (lt_of_block HG8.out) hs9
         have HM9:=Lib.hid hm9
         have HG9:Hid (w9.heap[g]?=some (.cells #[.int .i64 0,.int .i64 0,.int .i64 0,.int .i64 0,.int .i64 0,.int .i64 0,.bool false,.slice none 0 0,.slice none 0 0] 54 (0,0))):=hg9.trans HG8.out
         clear hs9 hk9 hm9 hg9 HTO HM8 HG8 HX8
         have z0:=cell_slot (o:=0) HG9.out rfl
         have f0:=free_slot (o:=0) HG9.out
         have z1:=cell_slot (o:=1) HG9.out rfl
         have f1:=free_slot (o:=1) HG9.out
         have z2:=cell_slot (o:=2) HG9.out rfl
         have f2:=free_slot (o:=2) HG9.out
         have z3:=cell_slot (o:=3) HG9.out rfl
         have f3:=free_slot (o:=3) HG9.out
         have z4:=cell_slot (o:=4) HG9.out rfl
         have f4:=free_slot (o:=4) HG9.out
         have z5:=cell_slot (o:=5) HG9.out rfl
         have f5:=free_slot (o:=5) HG9.out
         have z6:=cell_slot (o:=6) HG9.out rfl
         have f6:=free_slot (o:=6) HG9.out
         have z7:=cell_slot (o:=7) HG9.out rfl
         have f7:=free_slot (o:=7) HG9.out
         have z8:=cell_slot (o:=8) HG9.out rfl
         have f8:=free_slot (o:=8) HG9.out
         obtain ⟨y0,y1,y2,y3,y4,y5,y6,y7,y8⟩:=HX9.out.cells
         go_wp2_with fail
         refine ret_three rfl _ _ g 54 _ _ _ _ _ _ _ _ _ _ _ _ rfl rfl rfl (nine_heap HG9.out _ _ _ _ _ _ _ _ _) Try.underlying54 rfl (by kernel_rfl) ?_
         have hfs:finS s s.u 0=true:=by unfold finS;rw [hfd,hrs,decide_eq_true (by rw [HUL.out];omega)];rfl
         have hdu:dueN s.fin=true:=by rw [not_told HOK.out.fin,hft];rfl
         have hns:nextS s room most=some (⟨s.u,0,true,0⟩,putS s s.u 0 true 0):=by
          rw [HF.out,if_neg (by rw [HBA.out];omega),if_pos ⟨hfs,hdu⟩]
         have HNI:=(next_some hns).1
         have hau:s.u=(s.bs.length:Int):=HUL.out
         refine HQ.out _ _ (.inr ⟨s.bs.length,0,true,0,none,0,by rw [← hau];exact HNI,rfl,?_,Rd.nil _ _ _⟩)
         have HPS:putS s (s.bs.length:Int) ((0:Nat):Int) true 0=⟨s.l,s.u,s.id,s.bs,s.lost,s.came,s.fd,if true=true then tellN s.fin else s.fin,s.rs,s.code,s.sure,s.br⟩:=by
          unfold putS
          rw [Int.add_zero,show (s.bs.length:Int)+((0:Nat):Int)=(s.bs.length:Int) by omega,turn_same]
         rw [HPS]
         exact (((((((((HM9.out.set 0 _).set 1 _).set 2 _).set 3 _).set 4 _).set 5 _).set 6 _).set 7 _).set 8 _).to
       ·rw [hft] at hc10
        have z0:=cell_slot (o:=0) HGX2.out rfl
        have f0:=free_slot (o:=0) HGX2.out
        have z1:=cell_slot (o:=1) HGX2.out rfl
        have f1:=free_slot (o:=1) HGX2.out
        have z2:=cell_slot (o:=2) HGX2.out rfl
        have f2:=free_slot (o:=2) HGX2.out
        have z3:=cell_slot (o:=3) HGX2.out rfl
        have f3:=free_slot (o:=3) HGX2.out
        have z4:=cell_slot (o:=4) HGX2.out rfl
        have f4:=free_slot (o:=4) HGX2.out
        have z5:=cell_slot (o:=5) HGX2.out rfl
        have f5:=free_slot (o:=5) HGX2.out
        have z6:=cell_slot (o:=6) HGX2.out rfl
        have f6:=free_slot (o:=6) HGX2.out
        have z7:=cell_slot (o:=7) HGX2.out rfl
        have f7:=free_slot (o:=7) HGX2.out
        have z8:=cell_slot (o:=8) HGX2.out rfl
        have f8:=free_slot (o:=8) HGX2.out
        go_wp2_with fail
        refine ret_three rfl _ _ g 54 _ _ _ _ _ _ _ _ _ _ _ _ rfl rfl rfl (nine_heap HGX2.out _ _ _ _ _ _ _ _ _) Try.underlying54 rfl (by kernel_rfl) ?_
        refine HQ.out _ _ (.inl ⟨?_,rfl,(((((((((HMX.out.set 0 _).set 1 _).set 2 _).set 3 _).set 4 _).set 5 _).set 6 _).set 7 _).set 8 _).to⟩)
        rw [HF.out]
        split
        ·rfl
        ·rw [if_neg (fun h=>?_)]
         have:=h.2;rw [not_told HOK.out.fin,hft] at this;simp at this
      ·have hune:(u != (s.bs.length:Int))=true:=by rw [← HU.out];simpa using hul
       have z0:=cell_slot (o:=0) HGX2.out rfl
       have f0:=free_slot (o:=0) HGX2.out
       have z1:=cell_slot (o:=1) HGX2.out rfl
       have f1:=free_slot (o:=1) HGX2.out
       have z2:=cell_slot (o:=2) HGX2.out rfl
       have f2:=free_slot (o:=2) HGX2.out
       have z3:=cell_slot (o:=3) HGX2.out rfl
       have f3:=free_slot (o:=3) HGX2.out
       have z4:=cell_slot (o:=4) HGX2.out rfl
       have f4:=free_slot (o:=4) HGX2.out
       have z5:=cell_slot (o:=5) HGX2.out rfl
       have f5:=free_slot (o:=5) HGX2.out
       have z6:=cell_slot (o:=6) HGX2.out rfl
       have f6:=free_slot (o:=6) HGX2.out
       have z7:=cell_slot (o:=7) HGX2.out rfl
       have f7:=free_slot (o:=7) HGX2.out
       have z8:=cell_slot (o:=8) HGX2.out rfl
       have f8:=free_slot (o:=8) HGX2.out
       go_wp2_with fail
       refine ret_three rfl _ _ g 54 _ _ _ _ _ _ _ _ _ _ _ _ rfl rfl rfl (nine_heap HGX2.out _ _ _ _ _ _ _ _ _) Try.underlying54 rfl (by kernel_rfl) ?_
       refine HQ.out _ _ (.inl ⟨?_,rfl,(((((((((HMX.out.set 0 _).set 1 _).set 2 _).set 3 _).set 4 _).set 5 _).set 6 _).set 7 _).set 8 _).to⟩)
       rw [HF.out]
       split
       ·rfl
       ·rw [if_neg (fun h=>?_)]
        have:=h.1;unfold finS at this;simp at this;exact hul (by omega)
     ·rw [hrs] at hc5
      have z0:=cell_slot (o:=0) HGX2.out rfl
      have f0:=free_slot (o:=0) HGX2.out
      have z1:=cell_slot (o:=1) HGX2.out rfl
      have f1:=free_slot (o:=1) HGX2.out
      have z2:=cell_slot (o:=2) HGX2.out rfl
      have f2:=free_slot (o:=2) HGX2.out
      have z3:=cell_slot (o:=3) HGX2.out rfl
      have f3:=free_slot (o:=3) HGX2.out
      have z4:=cell_slot (o:=4) HGX2.out rfl
      have f4:=free_slot (o:=4) HGX2.out
      have z5:=cell_slot (o:=5) HGX2.out rfl
      have f5:=free_slot (o:=5) HGX2.out
      have z6:=cell_slot (o:=6) HGX2.out rfl
      have f6:=free_slot (o:=6) HGX2.out
      have z7:=cell_slot (o:=7) HGX2.out rfl
      have f7:=free_slot (o:=7) HGX2.out
      have z8:=cell_slot (o:=8) HGX2.out rfl
      have f8:=free_slot (o:=8) HGX2.out
      go_wp2_with fail
      refine ret_three rfl _ _ g 54 _ _ _ _ _ _ _ _ _ _ _ _ rfl rfl rfl (nine_heap HGX2.out _ _ _ _ _ _ _ _ _) Try.underlying54 rfl (by kernel_rfl) ?_
      refine HQ.out _ _ (.inl ⟨?_,rfl,(((((((((HMX.out.set 0 _).set 1 _).set 2 _).set 3 _).set 4 _).set 5 _).set 6 _).set 7 _).set 8 _).to⟩)
      rw [HF.out]
      split
      ·rfl
      ·rw [if_neg (fun h=>?_)]
       have:=h.1;unfold finS at this;rw [hrs] at this;simp at this
theorem rnext_st (h:RIn w p G v1 v8 v9 s) (hok:StOk s) (room most:Int) :
  Calls Try.prog 26 #[.pointer (some ⟨p,0,none⟩),.int .i64 room,.int .i64 most] w (RNextP s room most w p G):=by
 cases hh:hitS s
 ·exact rnext_miss h hok room most hh
 ·exact rnext_hit h hok room most hh
end
end Go.Proofs.Ytoahkffdoaphlaa.Se
