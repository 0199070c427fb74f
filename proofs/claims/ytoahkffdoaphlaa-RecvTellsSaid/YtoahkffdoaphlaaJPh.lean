/- Joined texts. Conditions: as each theorem lists them. -/
import Derived.Test.YtoahkffdoaphlaaJPg
import Derived.Test.YtoahkffdoaphlaaJWk
import Derived.Test.YtoahkffdoaphlaaJLc
set_option linter.unusedSimpArgs false
set_option linter.unusedVariables false
set_option maxRecDepth 100000
set_option maxHeartbeats 80000000
namespace Go.Proofs.Ytoahkffdoaphlaa.Re
open Go Go.RowKit Go.Proofs.Ytoahkffdoaphlaa Go.Proofs.Ytoahkffdoaphlaa.Sp Go.Proofs.Ytoahkffdoaphlaa.Sp.Ref Go.Proofs.Ytoahkffdoaphlaa.Se Go.Maps Go.Proofs.Ytoahkffdoaphlaa.Rw
/-- What stands behind the switch. -/
def RX (W w:World) (p q j g:Nat) (o:Obj):Prop:=∃ n F s G r,TB W w p n F s q G r∧TM j n s r∧OffB w g F G o
section
variable {W w w':World} {p n q j g:Nat} {F F' G G':List Nat} {s s':Rs} {r r':Rq} {A:Option Addr} {bs:List Nat} {o:Obj}
theorem TB.laid (h:TB W w p n F s q G r) (o:Obj):TB W (w.alloc o) p n F s q G r∧OffB (w.alloc o) w.heap.size F G (o):=by
 obtain ⟨v0,v4,k⟩:=h.rv
 exact ⟨h.below ((Below.refl _ _).alloc (Nat.le_refl _) _),heap_alloc_new w _,fun hm=>by have:=h.hr.lt _ hm;omega,fun hm=>by have:=k.hG _ hm;omega⟩
theorem take_tb (h:TB W w p n F s q G r) (hk:RsNum s) (hrd:0≤s.rd∧s.rd≤1152921504606846976) (most:Int) (m t:Nat) (hm:nS s most=(m:Int)) (ht:s.tk=(t:Int)) :
  Calls Try.prog 35 #[.pointer (some ⟨p,0,none⟩),.int .i64 most] w fun e w'=>∃ A c K' F',e=.returned (.tuple #[.slice A m c,.int .i64 (overS (takenS s m K')),.int .i64 (if overS (takenS s m K')=2 then s.code else 0)])∧TB W w' p n F' (takenS s m K') q G r∧Goes w w' F F'∧RowB w' F' G A (seqK s.K t m)∧∀ x,t+m≤x→K' x=s.K x:=by
 obtain ⟨v0,v4,h1⟩:=h.hr.st
 obtain ⟨u0,u4,k1⟩:=h.rv
 refine (take_rc h1 hk hrd most m t hm ht).mono ?_
 rintro e w' ⟨A,c,K',F',a,b,rfl,h2,h3,h4,h5,h6,h7⟩
 have hr:=Rd.of_own h5
 rw [Nat.mul_one] at hr
 have hh:HR W w' p n F' (takenS s m K'):=⟨⟨a,b,h2⟩,fun k hk=>(h4 k hk).elim (h.hr.lo k) (fun hh=>Nat.le_trans h.hr.low.size hh),h.hr.low.trans (h3.below h.hr.low.size h.hr.lo)⟩
 refine ⟨A,c,K',F',rfl,h.goP hh ⟨h3,h4⟩,⟨h3,h4⟩,⟨⟨by rw [seqK_len];exact hr,fun _ z ez=>h6 _ (by rw [ez];simp [fp])⟩,⟨by rw [seqK_len];exact hr,fun _ z ez hm=>?_⟩⟩,h7⟩
 have h8:=(h5.lt z.block (by rw [ez];rfl)).1
 have:=k1.hG _ hm
 omega
end
theorem recv_tells_walk (A:Option Addr) (N cap:Nat) (rs:List Rw.Rc) (w:World) (hr:Rw.CallsIn w A cap N rs) (hN:N≤2199023255488) :
  Calls Try.prog 4 #[.slice A N cap] w fun e w'=>e=.returned (.bool true)∧Below w.heap.size w w':=by
 have HRS:=Lib.hid hr
 have HNN:=Lib.hid hN
 have hnI:(N:Int)≤2199023255488:=by omega
 have hncI:(N:Int)≤(cap:Int):=by have:=hr.le;omega
 clear hr hN
 have HKN:=Lib.hid known_any
 have HNEW:=Lib.hid (new_hr w 5)
 have HNER:=Lib.hid rnew_rv
 go_enter Try.func4,Try.ntmps4
 go_wp2_with fail
 refine HNEW.out.mono ?_
 rintro e w1 ⟨p,F1,rfl,hh1,_⟩
 have HH1:=Lib.hid hh1
 clear hh1 HNEW
 go_wp2_with fail
 refine (HNER.out w1).mono ?_
 rintro e w2 ⟨q,G1,a0,a4,rfl,hv2,hG2,hb2⟩
 have HB2:Hid (TB w w2 p 0 F1 newR q G1 newRq):=⟨HH1.out.below hb2,⟨a0,a4,hv2⟩,fun k hk=>Nat.le_trans HH1.out.low.size (hG2 k hk),fun k hk hm=>by have h1:=HH1.out.lt k hk;have h2:=hG2 k hm;omega⟩
 clear hv2 hG2 hb2 HH1 HNER
 go_wp2_with fail
 refine (HKN.out w2).mono ?_
 rintro e w3 ⟨rfl,hb3⟩
 have HJ3:Hid (RJ w w3 p q 0):=⟨0,F1,newR,G1,newRq,HB2.out.below hb3,TM.new⟩
 clear hb3 HB2 HKN
 go_wp2_with fail
 go_loopw [41] (fun i wr=>∃ (j:Nat),j≤N∧i=.int .i64 (j:Int)∧Hid (RJ w wr p q j)) (fun i _=>N - (intOf i).toNat)
 case atStart=>exact ⟨0,Nat.zero_le _,rfl,HJ3⟩
 case round =>
  clear HJ3
  obtain ⟨j,hj,rfl,HK⟩:=hrel
  by_cases hlt:j<N
  case neg =>
   have hlti:¬ (j:Int)<(N:Int):=by omega
   obtain ⟨n,F,s,G,r,hB,_⟩:=HK.out
   have HB:=Lib.hid hB.hr.low
   clear hB HK
   go_wp2_with fail
   go_ret
   exact ⟨rfl,HB.out⟩
  case pos =>
   have hlti:(j:Int)<(N:Int):=by omega
   obtain ⟨n,F,s,G,r,hB,hM⟩:=HK.out
   have HJN:Hid (j+1≤2199023255488∧j+1≤N):=⟨by have:=HNN.out;omega,by omega⟩
   obtain ⟨b,o,hA,hbw,hcs⟩:=HRS.out.rd (by omega)
   subst hA
   obtain ⟨x,hx⟩:∃ x,rs[j]?=some x:=⟨_,List.getElem?_eq_getElem (by rw [HRS.out.len];omega)⟩
   obtain ⟨hxo,hxc⟩:=hcs j x hx
   have hlow:∀ jj,wr.cell? ⟨b,o+j * 6+jj,none⟩=w.cell? ⟨b,o+j * 6+jj,none⟩:=fun jj=>hB.hr.low.cell (p:=⟨b,o+j * 6+jj,none⟩) hbw
   have HX4:Hid (Rw.RcOk w x):=hxo
   obtain ⟨x0,x1,x2,x3,x4,A5,x5,c5⟩:=x
   have z0:wr.cell? ⟨b,o+j * 6,none⟩=some (.int .i64 x0):=(hlow 0).trans (hxc 0 _ rfl)
   have z1:wr.cell? ⟨b,o+j * 6+1,none⟩=some (.int .i64 x1):=(hlow 1).trans (hxc 1 _ rfl)
   have z2:wr.cell? ⟨b,o+j * 6+2,none⟩=some (.int .i64 x2):=(hlow 2).trans (hxc 2 _ rfl)
   have z3:wr.cell? ⟨b,o+j * 6+3,none⟩=some (.int .i64 x3):=(hlow 3).trans (hxc 3 _ rfl)
   have z4:wr.cell? ⟨b,o+j * 6+4,none⟩=some (.bool x4):=(hlow 4).trans (hxc 4 _ rfl)
   have z5:wr.cell? ⟨b,o+j * 6+5,none⟩=some (.slice A5 x5.length c5):=(hlow 5).trans (hxc 5 _ rfl)
   have nz0:=World.new_ne wr _ z0
   have HI:=Lib.hid hB
   have HM:=Lib.hid hM
   clear hB hM HK hcs hx hxo hxc hlow
   go_upto_region 8 with (fail)
   obtain ⟨w1,hw1⟩:∃ x,wr.alloc (.cells #[.int .i64 x0,.int .i64 x1,.int .i64 x2,.int .i64 x3,.bool x4,.slice A5 x5.length c5] 69)=x:=⟨_,rfl⟩
   obtain ⟨g,hg⟩:∃ g,wr.heap.size=g:=⟨_,rfl⟩
   have HI1:Hid (TB w w1 p n F s q G r):=by rw [← hw1];exact (HI.out.laid _).1
   have HO1:Hid (OffB w1 g F G (.cells #[.int .i64 x0,.int .i64 x1,.int .i64 x2,.int .i64 x3,.bool x4,.slice A5 x5.length c5] 69 (0,0))):=by rw [← hw1,← hg];exact (HI.out.laid _).2
   rw [hw1,hg]
   clear hw1 hg nz0 z0 z1 z2 z3 z4 z5 HI
   have g0:=cell_slot (o:=0) HO1.out.hp rfl
   have HP10:=Lib.hid (fun W=>pick_any x0 10 W (by decide) (by decide))
   have hp10:0≤x0 % 10∧x0 % 10<10:=by omega
   obtain ⟨k,hk⟩:∃ k,x0 % 10=k:=⟨_,rfl⟩
   rw [hk] at HP10 hp10
   clear hk
   go_wp2_with fail
   refine (HP10.out _).mono ?_;rintro e w' ⟨rfl,hw'⟩;subst hw'
   clear HP10 g0
   go_upto_block 2 with (fail)
   go_cut [7,8,9,10,11,12,13,14,15,16,17,18,19,20,21,22,23,24,25,26,27,28,29,30] (fun v7 v8 v9 v10 v11 v12 v13 v14 v15 v16 v17 v18 v19 v20 v21 v22 v23 v24 v25 v26 v27 v28 v29 v30 wx=>Hid (RX w wx p q (j+1) g (.cells #[.int .i64 x0,.int .i64 x1,.int .i64 x2,.int .i64 x3,.bool x4,.slice A5 x5.length c5] 69 (0,0))))
   case first =>
    by_cases h0:k=0
    ·subst h0
     clear hp10
     as_aux_lemma =>
      have g1:=cell_slot (o:=1) HO1.out.hp rfl
      have HP1:=Lib.hid (fun W=>pick_any x1 250 W (by decide) (by decide))
      have hmo:0≤x1 % 250∧x1 % 250<250:=by omega
      obtain ⟨mo,hmo2⟩:∃ z,x1 % 250=z:=⟨_,rfl⟩
      rw [hmo2] at HP1 hmo
      clear hmo2
      have HMO:=Lib.hid hmo
      clear hmo
      go_wp2_with fail
      refine (HP1.out _).mono ?_;rintro e w' ⟨rfl,hw'⟩;subst hw'
      clear g1 HP1
      obtain ⟨m,hm⟩:∃ z:Nat,nS s mo=(z:Int):=⟨(nS s mo).toNat,by have:=(nS_in HM.out.num HM.out.me.ri.ok mo);omega⟩
      obtain ⟨t,ht⟩:∃ z:Nat,s.tk=(z:Int):=⟨s.tk.toNat,by have:=HM.out.me.ri.tk;omega⟩
      have HTK:=Lib.hid (take_tb HI1.out HM.out.num (by have h1:=HM.out.rd;have h2:=HM.out.small;omega) mo m t hm ht)
      have HMT:=Lib.hid (And.intro hm ht)
      clear hm ht
      go_wp2_with fail
      refine HTK.out.mono ?_
      rintro e w2 ⟨A2,c2,K2,F2,rfl,hB2,hg2,hw2,hK2⟩
      have HXT:=Lib.hid (HM.out.take HJN.out.1 mo m t (by have:=HMO.out;omega) HMT.out.1 HMT.out.2 K2 hK2)
      have HB2:=Lib.hid hB2
      have HR2:=Lib.hid hw2
      have HO2:=Lib.hid (HO1.out.goP hg2)
      clear hB2 hg2 hw2 hK2 HTK
      obtain ⟨ov,hov⟩:∃ z,overS (takenS s m K2)=z:=⟨_,rfl⟩
      obtain ⟨cd,hcd⟩:∃ z,(if ov=2 then s.code else 0)=z:=⟨_,rfl⟩
      have HOV:=Lib.hid hov
      have HCD:=Lib.hid hcd
      rw [hov,hcd]
      clear hov hcd
      have HRT:Hid (Calls Try.prog 36 #[.pointer (some ⟨q,0,none⟩),.int .i64 mo] w2 fun e w'=>∃ A c G' r2,e=.returned (.tuple #[.slice A m c,.int .i64 ov,.int .i64 cd])∧TB w w' p n F2 (takenS s m K2) q G' r2∧TM (j+1) n (takenS s m K2) r2∧Goes w2 w' G G'∧RowO w' G' A (seqK s.K t m)):=by
       obtain ⟨u0,u4,hv⟩:=HB2.out.rv
       have k1:=HM.out.me
       have k2:=HM.out.small
       have k3:=HXT.out
       have k4:=HMT.out
       have k5:toR r mo=((t+m:Nat):Int):=by rw [k1.to,k4.1,k4.2];omega
       have k6:=k1.bt
       have k7:=k1.ri.top
       have k8:=k1.ri.tl
       refine (rtake_rv hv (by rw [k1.es];exact HM.out.bnd.2) (by rw [k1.rd,HM.out.rd];omega) mo t m (by rw [k1.tk];exact k4.2) k5 k3.2.2.2 (by omega) (by have:=k4.1;unfold nS at this;omega)).mono ?_
       rintro e w' ⟨A3,c3,G3,a3,b3,r2,rfl,rfl,hv3,hg3,hc3,hro3⟩
       have e1:=k3.2.1
       rw [HOV.out] at e1
       refine ⟨A3,c3,G3,_,?_,HB2.out.goR ⟨a3,b3,hv3⟩ hg3,k3.1,hg3,?_⟩
       ·rw [e1,k1.code,HCD.out]
       ·rw [k3.2.2.1];exact hro3
      go_wp2_with fail
      refine HRT.out.mono ?_
      rintro e w3 ⟨A3,c3,G3,r3,rfl,hB3,hM3,hg3,hro3⟩
      have HB3:=Lib.hid hB3
      have HM3:=Lib.hid hM3
      have HO3:=Lib.hid (HO2.out.goR hg3)
      obtain ⟨st,hst⟩:∃ z,strOf (seqK s.K t m)=z:=⟨_,rfl⟩
      have hs1:=str_hr (HR2.out.goR hg3).rf c2
      have hs2:=str_hr hro3 c3
      rw [seqK_len,hst] at hs1 hs2
      have HOVR:Hid (∀ e':World,e'=w3→Calls Try.prog 37 #[.pointer (some ⟨p,0,none⟩)] e' fun e w'=>e=.returned (.int .i64 ov)∧∃ z,w'=w3.drewN z):=fun e' he=>by
       subst he
       have:=over_hr HB3.out.hr
       rw [HOV.out] at this
       exact this
      clear hB3 hM3 hg3 hro3 hst HRT
      go_wp2_with fail
      refine (HOVR.out _ rfl).mono ?_
      rintro e w4 ⟨rfl,z4,rfl⟩
      have hb4:Below w3.heap.size w3 (w3.drewN z4):=⟨rfl,rfl,rfl,Nat.le_refl _,fun _ _=>rfl⟩
      clear hs1 hs2
      have HJ:Hid (RX w _ p q (j+1) g (.cells #[.int .i64 x0,.int .i64 x1,.int .i64 x2,.int .i64 x3,.bool x4,.slice A5 x5.length c5] 69 (0,0))):=⟨_,_,_,_,_,HB3.out.below hb4,HM3.out,HO3.out.below hb4⟩
      go_wp2_with fail
      go_meet
      exact HJ
    have h0b:(k == 0)=false:=by simpa using h0
    clear h0
    by_cases h1:k=1
    ·subst h1
     clear hp10
     as_aux_lemma =>
      have g1:=cell_slot (o:=1) HO1.out.hp rfl
      have HP1:=Lib.hid (fun W=>pick_any x1 250 W (by decide) (by decide))
      have hmo:0≤x1 % 250∧x1 % 250<250:=by omega
      obtain ⟨mo,hmo2⟩:∃ z,x1 % 250=z:=⟨_,rfl⟩
      rw [hmo2] at HP1 hmo
      clear hmo2
      have HMO:=Lib.hid hmo
      clear hmo
      go_wp2_with fail
      refine (HP1.out _).mono ?_;rintro e w' ⟨rfl,hw'⟩;subst hw'
      clear g1 HP1
      obtain ⟨m,hm⟩:∃ z:Nat,nS s mo=(z:Int):=⟨(nS s mo).toNat,by have:=(nS_in HM.out.num HM.out.me.ri.ok mo);omega⟩
      obtain ⟨t,ht⟩:∃ z:Nat,s.tk=(z:Int):=⟨s.tk.toNat,by have:=HM.out.me.ri.tk;omega⟩
      have HTK:=Lib.hid (take_tb HI1.out HM.out.num (by have h1:=HM.out.rd;have h2:=HM.out.small;omega) mo m t hm ht)
      have HMT:=Lib.hid (And.intro hm ht)
      clear hm ht
      go_wp2_with fail
      refine HTK.out.mono ?_
      rintro e w2 ⟨A2,c2,K2,F2,rfl,hB2,hg2,hw2,hK2⟩
      have HXT:=Lib.hid (HM.out.take HJN.out.1 mo m t (by have:=HMO.out;omega) HMT.out.1 HMT.out.2 K2 hK2)
      have HB2:=Lib.hid hB2
      have HR2:=Lib.hid hw2
      have HO2:=Lib.hid (HO1.out.goP hg2)
      clear hB2 hg2 hw2 hK2 HTK
      obtain ⟨ov,hov⟩:∃ z,overS (takenS s m K2)=z:=⟨_,rfl⟩
      obtain ⟨cd,hcd⟩:∃ z,(if ov=2 then s.code else 0)=z:=⟨_,rfl⟩
      have HOV:=Lib.hid hov
      have HCD:=Lib.hid hcd
      rw [hov,hcd]
      clear hov hcd
      have HRT:Hid (Calls Try.prog 36 #[.pointer (some ⟨q,0,none⟩),.int .i64 mo] w2 fun e w'=>∃ A c G' r2,e=.returned (.tuple #[.slice A m c,.int .i64 ov,.int .i64 cd])∧TB w w' p n F2 (takenS s m K2) q G' r2∧TM (j+1) n (takenS s m K2) r2∧Goes w2 w' G G'∧RowO w' G' A (seqK s.K t m)):=by
       obtain ⟨u0,u4,hv⟩:=HB2.out.rv
       have k1:=HM.out.me
       have k2:=HM.out.small
       have k3:=HXT.out
       have k4:=HMT.out
       have k5:toR r mo=((t+m:Nat):Int):=by rw [k1.to,k4.1,k4.2];omega
       have k6:=k1.bt
       have k7:=k1.ri.top
       have k8:=k1.ri.tl
       refine (rtake_rv hv (by rw [k1.es];exact HM.out.bnd.2) (by rw [k1.rd,HM.out.rd];omega) mo t m (by rw [k1.tk];exact k4.2) k5 k3.2.2.2 (by omega) (by have:=k4.1;unfold nS at this;omega)).mono ?_
       rintro e w' ⟨A3,c3,G3,a3,b3,r2,rfl,rfl,hv3,hg3,hc3,hro3⟩
       have e1:=k3.2.1
       rw [HOV.out] at e1
       refine ⟨A3,c3,G3,_,?_,HB2.out.goR ⟨a3,b3,hv3⟩ hg3,k3.1,hg3,?_⟩
       ·rw [e1,k1.code,HCD.out]
       ·rw [k3.2.2.1];exact hro3
      go_wp2_with fail
      refine HRT.out.mono ?_
      rintro e w3 ⟨A3,c3,G3,r3,rfl,hB3,hM3,hg3,hro3⟩
      have HB3:=Lib.hid hB3
      have HM3:=Lib.hid hM3
      have HO3:=Lib.hid (HO2.out.goR hg3)
      obtain ⟨st,hst⟩:∃ z,strOf (seqK s.K t m)=z:=⟨_,rfl⟩
      have hs1:=str_hr (HR2.out.goR hg3).rf c2
      have hs2:=str_hr hro3 c3
      rw [seqK_len,hst] at hs1 hs2
      have HOVR:Hid (∀ e':World,e'=w3→Calls Try.prog 37 #[.pointer (some ⟨p,0,none⟩)] e' fun e w'=>e=.returned (.int .i64 ov)∧∃ z,w'=w3.drewN z):=fun e' he=>by
       subst he
       have:=over_hr HB3.out.hr
       rw [HOV.out] at this
       exact this
      clear hB3 hM3 hg3 hro3 hst HRT
      go_wp2_with fail
      refine (HOVR.out _ rfl).mono ?_
      rintro e w4 ⟨rfl,z4,rfl⟩
      have hb4:Below w3.heap.size w3 (w3.drewN z4):=⟨rfl,rfl,rfl,Nat.le_refl _,fun _ _=>rfl⟩
      clear hs1 hs2
      have HJ:Hid (RX w _ p q (j+1) g (.cells #[.int .i64 x0,.int .i64 x1,.int .i64 x2,.int .i64 x3,.bool x4,.slice A5 x5.length c5] 69 (0,0))):=⟨_,_,_,_,_,HB3.out.below hb4,HM3.out,HO3.out.below hb4⟩
      go_wp2_with fail
      go_meet
      exact HJ
    have h1b:(k == 1)=false:=by simpa using h1
    clear h1
    by_cases h2:k=2
    ·subst h2
     clear hp10
     as_aux_lemma =>
      have g1:=cell_slot (o:=1) HO1.out.hp rfl
      have HP1:=Lib.hid (fun W=>pick_any x1 250 W (by decide) (by decide))
      have hmo:0≤x1 % 250∧x1 % 250<250:=by omega
      obtain ⟨mo,hmo2⟩:∃ z,x1 % 250=z:=⟨_,rfl⟩
      rw [hmo2] at HP1 hmo
      clear hmo2
      have HMO:=Lib.hid hmo
      clear hmo
      go_wp2_with fail
      refine (HP1.out _).mono ?_;rintro e w' ⟨rfl,hw'⟩;subst hw'
      clear g1 HP1
      obtain ⟨m,hm⟩:∃ z:Nat,nS s mo=(z:Int):=⟨(nS s mo).toNat,by have:=(nS_in HM.out.num HM.out.me.ri.ok mo);omega⟩
      obtain ⟨t,ht⟩:∃ z:Nat,s.tk=(z:Int):=⟨s.tk.toNat,by have:=HM.out.me.ri.tk;omega⟩
      have HTK:=Lib.hid (take_tb HI1.out HM.out.num (by have h1:=HM.out.rd;have h2:=HM.out.small;omega) mo m t hm ht)
      have HMT:=Lib.hid (And.intro hm ht)
      clear hm ht
      go_wp2_with fail
      refine HTK.out.mono ?_
      rintro e w2 ⟨A2,c2,K2,F2,rfl,hB2,hg2,hw2,hK2⟩
      have HXT:=Lib.hid (HM.out.take HJN.out.1 mo m t (by have:=HMO.out;omega) HMT.out.1 HMT.out.2 K2 hK2)
      have HB2:=Lib.hid hB2
      have HR2:=Lib.hid hw2
      have HO2:=Lib.hid (HO1.out.goP hg2)
      clear hB2 hg2 hw2 hK2 HTK
      obtain ⟨ov,hov⟩:∃ z,overS (takenS s m K2)=z:=⟨_,rfl⟩
      obtain ⟨cd,hcd⟩:∃ z,(if ov=2 then s.code else 0)=z:=⟨_,rfl⟩
      have HOV:=Lib.hid hov
      have HCD:=Lib.hid hcd
      rw [hov,hcd]
      clear hov hcd
      have HRT:Hid (Calls Try.prog 36 #[.pointer (some ⟨q,0,none⟩),.int .i64 mo] w2 fun e w'=>∃ A c G' r2,e=.returned (.tuple #[.slice A m c,.int .i64 ov,.int .i64 cd])∧TB w w' p n F2 (takenS s m K2) q G' r2∧TM (j+1) n (takenS s m K2) r2∧Goes w2 w' G G'∧RowO w' G' A (seqK s.K t m)):=by
       obtain ⟨u0,u4,hv⟩:=HB2.out.rv
       have k1:=HM.out.me
       have k2:=HM.out.small
       have k3:=HXT.out
       have k4:=HMT.out
       have k5:toR r mo=((t+m:Nat):Int):=by rw [k1.to,k4.1,k4.2];omega
       have k6:=k1.bt
       have k7:=k1.ri.top
       have k8:=k1.ri.tl
       refine (rtake_rv hv (by rw [k1.es];exact HM.out.bnd.2) (by rw [k1.rd,HM.out.rd];omega) mo t m (by rw [k1.tk];exact k4.2) k5 k3.2.2.2 (by omega) (by have:=k4.1;unfold nS at this;omega)).mono ?_
       rintro e w' ⟨A3,c3,G3,a3,b3,r2,rfl,rfl,hv3,hg3,hc3,hro3⟩
       have e1:=k3.2.1
       rw [HOV.out] at e1
       refine ⟨A3,c3,G3,_,?_,HB2.out.goR ⟨a3,b3,hv3⟩ hg3,k3.1,hg3,?_⟩
       ·rw [e1,k1.code,HCD.out]
       ·rw [k3.2.2.1];exact hro3
      go_wp2_with fail
      refine HRT.out.mono ?_
      rintro e w3 ⟨A3,c3,G3,r3,rfl,hB3,hM3,hg3,hro3⟩
      have HB3:=Lib.hid hB3
      have HM3:=Lib.hid hM3
      have HO3:=Lib.hid (HO2.out.goR hg3)
      obtain ⟨st,hst⟩:∃ z,strOf (seqK s.K t m)=z:=⟨_,rfl⟩
      have hs1:=str_hr (HR2.out.goR hg3).rf c2
      have hs2:=str_hr hro3 c3
      rw [seqK_len,hst] at hs1 hs2
      have HOVR:Hid (∀ e':World,e'=w3→Calls Try.prog 37 #[.pointer (some ⟨p,0,none⟩)] e' fun e w'=>e=.returned (.int .i64 ov)∧∃ z,w'=w3.drewN z):=fun e' he=>by
       subst he
       have:=over_hr HB3.out.hr
       rw [HOV.out] at this
       exact this
      clear hB3 hM3 hg3 hro3 hst HRT
      go_wp2_with fail
      refine (HOVR.out _ rfl).mono ?_
      rintro e w4 ⟨rfl,z4,rfl⟩
      have hb4:Below w3.heap.size w3 (w3.drewN z4):=⟨rfl,rfl,rfl,Nat.le_refl _,fun _ _=>rfl⟩
      clear hs1 hs2
      have HJ:Hid (RX w _ p q (j+1) g (.cells #[.int .i64 x0,.int .i64 x1,.int .i64 x2,.int .i64 x3,.bool x4,.slice A5 x5.length c5] 69 (0,0))):=⟨_,_,_,_,_,HB3.out.below hb4,HM3.out,HO3.out.below hb4⟩
      go_wp2_with fail
      go_meet
      exact HJ
    have h2b:(k == 2)=false:=by simpa using h2
    clear h2
    by_cases h3:k=3
    ·subst h3
     clear hp10
     as_aux_lemma =>
      have HSM:=Lib.hid (HM.out.small)
      have HTM:=Lib.hid (HM.out.tell HJN.out.1)
      obtain ⟨tv,htv⟩:∃ z,max s.tl (s.rd+s.rm)=z:=⟨_,rfl⟩
      have HTV:Hid (max r.tl (r.rd+r.rm)=tv):=by rw [HTM.out.2];exact htv
      have HTE:Hid (∀ W',HR w W' p n F s→Calls Try.prog 38 #[.pointer (some ⟨p,1,none⟩)] W' fun e w'=>e=.returned (.int .i64 tv)∧∃ F',HR w w' p n F' (toldS s)∧Goes W' w' F F'):=fun W' h=>by
       have:=tell_hr h (by rw [HM.out.rd];exact HSM.out.2.2.1) (by rw [HM.out.rm];omega) (by rw [HM.out.rm,HM.out.rd];have:=HSM.out;omega)
       rw [htv] at this
       exact this
      clear htv
      go_upto_region 25 with (fail)
      obtain ⟨wd,hwd⟩:∃ x,w1.drew=x:=⟨_,rfl⟩
      have HI2:Hid (TB w wd p n F s q G r):=by rw [← hwd];exact HI1.out.below ((Below.refl _ _).drew)
      have HO2:Hid (OffB wd g F G (.cells #[.int .i64 x0,.int .i64 x1,.int .i64 x2,.int .i64 x3,.bool x4,.slice A5 x5.length c5] 69 (0,0))):=by rw [← hwd];exact HO1.out.below ((Below.refl _ _).drew)
      refine wp_region_held_drew (S:=(fun _:World=>True)) (by kernel_rfl) ?_ (fun hHeld=>?_)
      ·exact trivial
      rw [hwd]
      clear hwd
      refine wpAnyH_take (i:=0) (v:=?_) rfl (by kernel_rfl) (by kernel_rfl) (by kernel_rfl) (fun _ _ _ h=>h) (Or.inl ⟨by rfl,?_⟩) (by assumption) ?_
      rotate_left
      ·intro w hSw;(try dsimp only at hSw);go_simp;try with_reducible rfl
      go_simp
      refine wpAnyH_take (i:=1) (v:=?_) rfl (by kernel_rfl) (by kernel_rfl) (by kernel_rfl) (fun _ _ _ h=>h) (Or.inl ⟨by rfl,?_⟩) (by assumption) ?_
      rotate_left
      ·intro w hSw;(try dsimp only at hSw);go_simp;try with_reducible rfl
      go_simp
      refine wpAnyH_take (i:=2) (v:=?_) rfl (by kernel_rfl) (by kernel_rfl) (by kernel_rfl) (fun _ _ _ h=>h) (Or.inl ⟨by rfl,?_⟩) (by assumption) ?_
      rotate_left
      ·intro w hSw;(try dsimp only at hSw);go_simp;try with_reducible rfl
      go_simp
      refine wpAnyH_take (i:=4) (v:=?_) rfl (by kernel_rfl) (by kernel_rfl) (by kernel_rfl) (fun _ _ _ h=>h) (Or.inl ⟨by rfl,?_⟩) (by assumption) ?_
      rotate_left
      ·intro w hSw;(try dsimp only at hSw);go_simp;try with_reducible rfl
      go_simp
      refine wpAnyH_take (i:=5) (v:=?_) rfl (by kernel_rfl) (by kernel_rfl) (by kernel_rfl) (fun _ _ _ h=>h) (Or.inl ⟨by rfl,?_⟩) (by assumption) ?_
      rotate_left
      ·intro w hSw;(try dsimp only at hSw);go_simp;try with_reducible rfl
      go_simp
      refine wpAnyH_take (i:=6) (v:=?_) rfl (by kernel_rfl) (by kernel_rfl) (by kernel_rfl) (fun _ _ _ h=>h) (Or.inl ⟨by rfl,?_⟩) (by assumption) ?_
      rotate_left
      ·intro w hSw;(try dsimp only at hSw);go_simp;try with_reducible rfl
      go_simp
      refine wpAnyH_ready (rs:=[3]) (by kernel_rfl) (by simp) ?_
      refine AllReadyH.cons rfl (fun K hK=>?_) AllReadyH.nil
      go_simp
      have HTP:=Lib.hid (HTE.out _ HI2.out.hr)
      refine HTP.out.mono ?_
      rintro e w2 ⟨rfl,F2,hh2,hg2⟩
      have HI3:=Lib.hid (HI2.out.goP hh2 hg2)
      have HO3:=Lib.hid (HO2.out.goP hg2)
      clear hh2 hg2 HTP
      refine hK.out _ _ ?_ (fun hHeld=>?_)
      ·exact trivial
      clear hK K
      go_simp
      refine wpAnyH_ready (rs:=[7]) (by kernel_rfl) (by simp) ?_
      refine AllReadyH.cons rfl (fun K hK=>?_) AllReadyH.nil
      go_simp
      obtain ⟨u0,u4,hv⟩:=HI3.out.rv
      have HTR:=Lib.hid (rtell_rv hv (by rw [HM.out.me.rd,HM.out.rd];exact HSM.out.2.2.1) (by rw [HM.out.me.rm,HM.out.rm];omega) (by rw [HM.out.me.rm,HM.out.rm,HM.out.me.rd,HM.out.rd];have:=HSM.out;omega))
      rw [HTV.out] at HTR
      clear hv
      refine HTR.out.mono ?_
      rintro e w3 ⟨rfl,G3,a3,b3,hv3,hk3,hn3⟩
      have HI4:=Lib.hid (HI3.out.goR ⟨a3,b3,hv3⟩ ⟨hk3,hn3⟩)
      have HO4:=Lib.hid (HO3.out.goR ⟨hk3,hn3⟩)
      clear hv3 hk3 hn3 HTR
      refine hK.out _ _ ?_ (fun hHeld=>?_)
      ·exact trivial
      clear hK K
      go_simp
      refine wpAnyH_take (i:=8) (v:=?_) rfl (by kernel_rfl) (by kernel_rfl) (by kernel_rfl) (fun _ _ _ h=>h) (Or.inl ⟨by rfl,?_⟩) (by assumption) ?_
      rotate_left
      ·intro w hSw;(try dsimp only at hSw);go_simp;try with_reducible rfl
      go_simp
      refine wpAnyH_done (by kernel_rfl) ?_ _
      have HM4:Hid (TM (j+1) n (toldS s) _):=HTM.out.1
      rw [HTV.out] at HM4
      have HJ:Hid (RX w _ p q (j+1) g (.cells #[.int .i64 x0,.int .i64 x1,.int .i64 x2,.int .i64 x3,.bool x4,.slice A5 x5.length c5] 69 (0,0))):=⟨_,_,_,_,_,HI4.out,HM4.out,HO4.out⟩
      go_wp2_with fail
      go_meet
      exact HJ
    have h3b:(k == 3)=false:=by simpa using h3
    clear h3
    by_cases h4:k=4
    ·subst h4
     clear hp10
     as_aux_lemma =>
      have g1:=cell_slot (o:=1) HO1.out.hp rfl
      have g2:=cell_slot (o:=2) HO1.out.hp rfl
      have g3:=cell_slot (o:=3) HO1.out.hp rfl
      by_cases h2:x1.tmod 2=0
      ·have h2b:(x1.tmod 2 == 0)=true:=by simpa using h2
       obtain ⟨z60,hz60⟩:∃ z,x1 % 60=z:=⟨_,rfl⟩
       obtain ⟨z20,hz20⟩:∃ z,x2 % 20=z:=⟨_,rfl⟩
       have HP1:=Lib.hid (fun W=>pick_any x1 60 W (by decide) (by decide))
       have HP2:Hid (∀ W,Calls Try.prog 5 #[.int .i64 x2,.int .i64 20] W fun e w'=>e=.returned (.int .i64 z20)∧w'=W):=fun W=>by
        rw [← hz20];exact (pick_any x2 20 W (by decide) (by decide)).mono fun _ _ h=>⟨h.1,h.2.symm⟩
       rw [hz60] at HP1
       have hw60:IntKind.i64.wrap (z60 - 1)=z60 - 1:=IntWalk.i64_in _ (by omega)
       have HSM:=Lib.hid (HM.out.small)
       have htp:0≤s.top∧s.top≤225000000000000:=by have h1:=HM.out.me.ri.top;have h2:=HSM.out;omega
       obtain ⟨tp,htp2⟩:∃ z,s.top=z:=⟨_,rfl⟩
       rw [htp2] at htp
       obtain ⟨en,hen⟩:∃ z,r.en=z:=⟨_,rfl⟩
       obtain ⟨u0,u4,hv⟩:=HI1.out.rv
       have d5:=hv.cells.2.2.2.2.2.1
       have d6:=hv.cells.2.2.2.2.2.2.1
       rw [HM.out.me.top,htp2] at d5
       rw [hen] at d6
       have hen1:en=-1∨en=tp:=by rw [← hen,HM.out.me.en,htp2];split <;> simp
       have hw1:IntKind.i64.wrap (tp+z20)=tp+z20:=IntWalk.i64_in _ (by omega)
       have hw2:IntKind.i64.wrap (tp+z20 - 2)=tp+z20 - 2:=IntWalk.i64_in _ (by omega)
       obtain ⟨e0,he0⟩:∃ z,max 0 (tp+z20 - 2)=z:=⟨_,rfl⟩
       have he1:0≤e0∧e0≤225000000000100:=by omega
       have HE1:=Lib.hid he1
       have HTPE:=Lib.hid htp
       clear hv hz60 hz20 hen htp2 h2 he1 htp
       go_upto_region 29 with (fail)
       go_quiet ((go_at_call 5;exact Calls.quiet_of_same (HP2.out _)))
       obtain ⟨wy,hwy⟩:∃ x,w1.drewN nq=x:=⟨_,rfl⟩
       have HI2:Hid (TB w wy p n F s q G r):=by rw [← hwy];exact HI1.out.below ⟨rfl,rfl,rfl,Nat.le_refl _,fun _ _=>rfl⟩
       have HO2:Hid (OffB wy g F G (.cells #[.int .i64 x0,.int .i64 x1,.int .i64 x2,.int .i64 x3,.bool x4,.slice A5 x5.length c5] 69 (0,0))):=by rw [← hwy];exact HO1.out.below ⟨rfl,rfl,rfl,Nat.le_refl _,fun _ _=>rfl⟩
       have f6:wy.cell? ⟨q,6,none⟩=some (.int .i64 en):=by rw [← hwy];exact d6
       rw [hwy]
       clear hwy d5 d6 g1 g2 g3 hw1 hw2 he0
       have g1:=cell_slot (o:=1) HO2.out.hp rfl
       have g3:=cell_slot (o:=3) HO2.out.hp rfl
       by_cases hc:0≤en
       ·by_cases hc5:0<x3.tmod 5
        ·as_aux_lemma =>
          have hee:=HTPE.out
          obtain rfl:en=tp:=by omega
          clear hen1
          have hwe:IntKind.i64.wrap (en+2)=en+2:=IntWalk.i64_in _ (by omega)
          obtain ⟨e2,he2⟩:∃ z,en+2=z:=⟨_,rfl⟩
          have he2b:0<e2∧e2≤9223372036854775807:=by omega
          have HP3:=Lib.hid (fun W=>pick_any x3 e2 W he2b.1 (by omega))
          obtain ⟨su,hsu⟩:∃ z,x3 % e2=z:=⟨_,rfl⟩
          rw [hsu] at HP3
          rw [he2] at hwe
          clear hsu he2b
          go_upto_region 32 with (fail)
          as_aux_lemma =>
           go_wp2_with (go_at_call 5;(with_reducible first | refine (HP3.out _).mono ?_ | refine (HP1.out _).mono ?_);rintro e w' ⟨rfl,hw'⟩;subst hw')
           have HBP:=Lib.hid (break_hr HI2.out.hr HM.out.num (z60 - 1) en su)
           obtain ⟨b1,hb1⟩:∃ z,(breakS s (z60 - 1) en su).1=z:=⟨_,rfl⟩
           obtain ⟨b2,hb2⟩:∃ z,(breakS s (z60 - 1) en su).2.1=z:=⟨_,rfl⟩
           rw [hb1,hb2] at HBP
           have HBE:=Lib.hid (And.intro hb1 hb2)
           clear hb1 hb2
           refine HBP.out.mono ?_
           rintro e w4 ⟨rfl,F4,hh4,hg4⟩
           have HI4:=Lib.hid (HI2.out.goP hh4 hg4)
           have HO4:=Lib.hid (HO2.out.goP hg4)
           clear hh4 hg4 HBP g1 g3 f6
           go_upto_region 34 with (fail)
           as_aux_lemma =>
            have g1:=cell_slot (o:=1) HO4.out.hp rfl
            have HBR:Hid (Calls Try.prog 41 #[.pointer (some ⟨q,0,none⟩),.int .i64 (z60 - 1),.int .i64 en,.int .i64 su] w4 fun e w'=>e=.returned (.tuple #[.int .i64 b1,.int .i64 b2])∧∃ r',Me r' (breakS s (z60 - 1) en su).2.2∧RvTo w4 w' q G r'):=by
             obtain ⟨u0,u4,hv⟩:=HI4.out.rv
             have:=rbreak_rv hv HM.out.me HM.out.bnd.2 (z60 - 1) en su
             rw [HBE.out.1,HBE.out.2] at this
             exact this
            go_wp2_with (go_at_call 5;refine (HP1.out _).mono ?_;rintro e w' ⟨rfl,hw'⟩;subst hw')
            refine HBR.out.mono ?_
            rintro e w5 ⟨rfl,r5,hm5,G5,a5,b5,hv5,hk5,hn5⟩
            have HI5:=Lib.hid (HI4.out.goR ⟨a5,b5,hv5⟩ ⟨hk5,hn5⟩)
            have HO5:=Lib.hid (HO4.out.goR ⟨hk5,hn5⟩)
            have HM5:=Lib.hid (HM.out.brk HJN.out.1 _ _ _ hm5)
            clear hv5 hk5 hn5 hm5 HBR g1
            as_aux_lemma =>
             have HJ:Hid (RX w _ p q (j+1) g (.cells #[.int .i64 x0,.int .i64 x1,.int .i64 x2,.int .i64 x3,.bool x4,.slice A5 x5.length c5] 69 (0,0))):=⟨_,_,_,_,_,HI5.out,HM5.out,HO5.out⟩
             go_wp2_with fail
             go_meet
             exact HJ
        ·as_aux_lemma =>
          have hee:=HE1.out
          have hwe:IntKind.i64.wrap (e0+2)=e0+2:=IntWalk.i64_in _ (by omega)
          obtain ⟨e2,he2⟩:∃ z,e0+2=z:=⟨_,rfl⟩
          have he2b:0<e2∧e2≤9223372036854775807:=by omega
          have HP3:=Lib.hid (fun W=>pick_any x3 e2 W he2b.1 (by omega))
          obtain ⟨su,hsu⟩:∃ z,x3 % e2=z:=⟨_,rfl⟩
          rw [hsu] at HP3
          rw [he2] at hwe
          clear hsu he2b
          go_upto_region 32 with (fail)
          as_aux_lemma =>
           go_wp2_with (go_at_call 5;(with_reducible first | refine (HP3.out _).mono ?_ | refine (HP1.out _).mono ?_);rintro e w' ⟨rfl,hw'⟩;subst hw')
           have HBP:=Lib.hid (break_hr HI2.out.hr HM.out.num (z60 - 1) e0 su)
           obtain ⟨b1,hb1⟩:∃ z,(breakS s (z60 - 1) e0 su).1=z:=⟨_,rfl⟩
           obtain ⟨b2,hb2⟩:∃ z,(breakS s (z60 - 1) e0 su).2.1=z:=⟨_,rfl⟩
           rw [hb1,hb2] at HBP
           have HBE:=Lib.hid (And.intro hb1 hb2)
           clear hb1 hb2
           refine HBP.out.mono ?_
           rintro e w4 ⟨rfl,F4,hh4,hg4⟩
           have HI4:=Lib.hid (HI2.out.goP hh4 hg4)
           have HO4:=Lib.hid (HO2.out.goP hg4)
           clear hh4 hg4 HBP g1 g3 f6
           go_upto_region 34 with (fail)
           as_aux_lemma =>
            have g1:=cell_slot (o:=1) HO4.out.hp rfl
            have HBR:Hid (Calls Try.prog 41 #[.pointer (some ⟨q,0,none⟩),.int .i64 (z60 - 1),.int .i64 e0,.int .i64 su] w4 fun e w'=>e=.returned (.tuple #[.int .i64 b1,.int .i64 b2])∧∃ r',Me r' (breakS s (z60 - 1) e0 su).2.2∧RvTo w4 w' q G r'):=by
             obtain ⟨u0,u4,hv⟩:=HI4.out.rv
             have:=rbreak_rv hv HM.out.me HM.out.bnd.2 (z60 - 1) e0 su
             rw [HBE.out.1,HBE.out.2] at this
             exact this
            go_wp2_with (go_at_call 5;refine (HP1.out _).mono ?_;rintro e w' ⟨rfl,hw'⟩;subst hw')
            refine HBR.out.mono ?_
            rintro e w5 ⟨rfl,r5,hm5,G5,a5,b5,hv5,hk5,hn5⟩
            have HI5:=Lib.hid (HI4.out.goR ⟨a5,b5,hv5⟩ ⟨hk5,hn5⟩)
            have HO5:=Lib.hid (HO4.out.goR ⟨hk5,hn5⟩)
            have HM5:=Lib.hid (HM.out.brk HJN.out.1 _ _ _ hm5)
            clear hv5 hk5 hn5 hm5 HBR g1
            as_aux_lemma =>
             have HJ:Hid (RX w _ p q (j+1) g (.cells #[.int .i64 x0,.int .i64 x1,.int .i64 x2,.int .i64 x3,.bool x4,.slice A5 x5.length c5] 69 (0,0))):=⟨_,_,_,_,_,HI5.out,HM5.out,HO5.out⟩
             go_wp2_with fail
             go_meet
             exact HJ
       ·as_aux_lemma =>
         have hee:=HE1.out
         have hwe:IntKind.i64.wrap (e0+2)=e0+2:=IntWalk.i64_in _ (by omega)
         obtain ⟨e2,he2⟩:∃ z,e0+2=z:=⟨_,rfl⟩
         have he2b:0<e2∧e2≤9223372036854775807:=by omega
         have HP3:=Lib.hid (fun W=>pick_any x3 e2 W he2b.1 (by omega))
         obtain ⟨su,hsu⟩:∃ z,x3 % e2=z:=⟨_,rfl⟩
         rw [hsu] at HP3
         rw [he2] at hwe
         clear hsu he2b
         go_upto_region 32 with (fail)
         as_aux_lemma =>
          go_wp2_with (go_at_call 5;(with_reducible first | refine (HP3.out _).mono ?_ | refine (HP1.out _).mono ?_);rintro e w' ⟨rfl,hw'⟩;subst hw')
          have HBP:=Lib.hid (break_hr HI2.out.hr HM.out.num (z60 - 1) e0 su)
          obtain ⟨b1,hb1⟩:∃ z,(breakS s (z60 - 1) e0 su).1=z:=⟨_,rfl⟩
          obtain ⟨b2,hb2⟩:∃ z,(breakS s (z60 - 1) e0 su).2.1=z:=⟨_,rfl⟩
          rw [hb1,hb2] at HBP
          have HBE:=Lib.hid (And.intro hb1 hb2)
          clear hb1 hb2
          refine HBP.out.mono ?_
          rintro e w4 ⟨rfl,F4,hh4,hg4⟩
          have HI4:=Lib.hid (HI2.out.goP hh4 hg4)
          have HO4:=Lib.hid (HO2.out.goP hg4)
          clear hh4 hg4 HBP g1 g3 f6
          go_upto_region 34 with (fail)
          as_aux_lemma =>
           have g1:=cell_slot (o:=1) HO4.out.hp rfl
           have HBR:Hid (Calls Try.prog 41 #[.pointer (some ⟨q,0,none⟩),.int .i64 (z60 - 1),.int .i64 e0,.int .i64 su] w4 fun e w'=>e=.returned (.tuple #[.int .i64 b1,.int .i64 b2])∧∃ r',Me r' (breakS s (z60 - 1) e0 su).2.2∧RvTo w4 w' q G r'):=by
            obtain ⟨u0,u4,hv⟩:=HI4.out.rv
            have:=rbreak_rv hv HM.out.me HM.out.bnd.2 (z60 - 1) e0 su
            rw [HBE.out.1,HBE.out.2] at this
            exact this
           go_wp2_with (go_at_call 5;refine (HP1.out _).mono ?_;rintro e w' ⟨rfl,hw'⟩;subst hw')
           refine HBR.out.mono ?_
           rintro e w5 ⟨rfl,r5,hm5,G5,a5,b5,hv5,hk5,hn5⟩
           have HI5:=Lib.hid (HI4.out.goR ⟨a5,b5,hv5⟩ ⟨hk5,hn5⟩)
           have HO5:=Lib.hid (HO4.out.goR ⟨hk5,hn5⟩)
           have HM5:=Lib.hid (HM.out.brk HJN.out.1 _ _ _ hm5)
           clear hv5 hk5 hn5 hm5 HBR g1
           as_aux_lemma =>
            have HJ:Hid (RX w _ p q (j+1) g (.cells #[.int .i64 x0,.int .i64 x1,.int .i64 x2,.int .i64 x3,.bool x4,.slice A5 x5.length c5] 69 (0,0))):=⟨_,_,_,_,_,HI5.out,HM5.out,HO5.out⟩
            go_wp2_with fail
            go_meet
            exact HJ
      ·have h2b:(x1.tmod 2 == 0)=false:=by simpa using h2
       clear h2 g2 g3
       have HJ:Hid (RX w _ p q (j+1) g (.cells #[.int .i64 x0,.int .i64 x1,.int .i64 x2,.int .i64 x3,.bool x4,.slice A5 x5.length c5] 69 (0,0))):=⟨_,_,_,_,_,HI1.out,(HM.out.stay HJN.out.1),HO1.out⟩
       go_wp2_with fail
       go_meet
       exact HJ
    have h4b:(k == 4)=false:=by simpa using h4
    clear h4
    by_cases h5:k=5
    ·subst h5
     clear hp10
     as_aux_lemma =>
      have HSM:=Lib.hid (HM.out.small)
      have HCN:Hid ((n:Int)≤cnt s.es):=HM.out.cnt
      obtain ⟨nu,hnu⟩:∃ z,numF x1=z:=⟨_,rfl⟩
      have HNU:Hid (∀ W,Calls Try.prog 43 #[.int .i64 x1] W fun e w'=>e=.returned (.int .i64 nu)∧w'=W):=fun W=>by
       rw [← hnu]
       exact (num_any x1 W HX4.out.b1.1 HX4.out.b1.2).mono fun _ _ h=>⟨h.1,h.2.symm⟩
      clear hnu
      have HRB:=Lib.hid (HI1.out.old HX4.out.r5)
      have HLB:=Lib.hid (And.intro HX4.out.l5 (And.intro HX4.out.z5 HX4.out.u5))
      obtain ⟨b1,hb1⟩:∃ z,(putS s nu x4 x5).1=z:=⟨_,rfl⟩
      obtain ⟨b2,hb2⟩:∃ z,(putS s nu x4 x5).2.1=z:=⟨_,rfl⟩
      have HPE:=Lib.hid (And.intro hb1 hb2)
      clear hb1 hb2
      go_upto_region 38 with (fail)
      obtain ⟨wd,hwd⟩:∃ x,w1.drew=x:=⟨_,rfl⟩
      have HI2:Hid (TB w wd p n F s q G r):=by rw [← hwd];exact HI1.out.below ((Below.refl _ _).drew)
      have HO2:Hid (OffB wd g F G (.cells #[.int .i64 x0,.int .i64 x1,.int .i64 x2,.int .i64 x3,.bool x4,.slice A5 x5.length c5] 69 (0,0))):=by rw [← hwd];exact HO1.out.below ((Below.refl _ _).drew)
      have HRB2:Hid (RowB wd F G A5 x5):=by rw [← hwd];exact HRB.out.goP (Goes.below _ ((Below.refl _ _).drew))
      clear HRB
      have HRB:=HRB2
      clear HRB2
      refine wp_region_held_drew (S:=(fun W:World=>W.cell? ⟨g,1,none⟩=some (.int .i64 x1)∧W.cell? ⟨g,4,none⟩=some (.bool x4)∧W.cell? ⟨g,5,none⟩=some (.slice A5 x5.length c5))) (by kernel_rfl) ?_ (fun hHeld=>?_)
      ·exact (hwd ▸ (⟨cell_slot (o:=1) HO2.out.hp rfl,cell_slot (o:=4) HO2.out.hp rfl,cell_slot (o:=5) HO2.out.hp rfl⟩:(fun W:World=>W.cell? ⟨g,1,none⟩=some (.int .i64 x1)∧W.cell? ⟨g,4,none⟩=some (.bool x4)∧W.cell? ⟨g,5,none⟩=some (.slice A5 x5.length c5)) wd))
      rw [hwd] at hHeld ⊢
      clear hwd
      refine wpAnyH_take (i:=0) (v:=?_) rfl (by kernel_rfl) (by kernel_rfl) (by kernel_rfl) (fun _ _ _ h=>h) (Or.inl ⟨by rfl,?_⟩) (by assumption) ?_
      rotate_left
      ·intro w hSw;(try dsimp only at hSw);go_simp;try with_reducible rfl
      go_simp
      refine wpAnyH_take (i:=1) (v:=?_) rfl (by kernel_rfl) (by kernel_rfl) (by kernel_rfl) (fun _ _ _ h=>h) (Or.inl ⟨by rfl,?_⟩) (by assumption) ?_
      rotate_left
      ·intro w hSw;(try dsimp only at hSw);go_simp;try with_reducible rfl
      go_simp
      refine wpAnyH_take (i:=2) (v:=?_) rfl (by kernel_rfl) (by kernel_rfl) (by kernel_rfl) (fun _ _ _ h=>h) (Or.inl ⟨by rfl,?_⟩) (by assumption) ?_
      rotate_left
      ·intro w hSw;(try dsimp only at hSw);go_simp;try with_reducible rfl
      go_simp
      refine Lc.take_call (i:=3) (v:=_) rfl (by kernel_rfl) (by kernel_rfl) (by kernel_rfl) (fun _ _ _ h=>h) ⟨by rfl,fun wS hSw=>⟨43,#[.int .i64 x1],?_,HNU.out wS⟩⟩ (by assumption) ?_
      ·go_simp;try with_reducible rfl
      go_simp
      refine wpAnyH_take (i:=4) (v:=?_) rfl (by kernel_rfl) (by kernel_rfl) (by kernel_rfl) (fun _ _ _ h=>h) (Or.inl ⟨by rfl,?_⟩) (by assumption) ?_
      rotate_left
      ·intro w hSw;(try dsimp only at hSw);go_simp;try with_reducible rfl
      go_simp
      refine wpAnyH_take (i:=5) (v:=?_) rfl (by kernel_rfl) (by kernel_rfl) (by kernel_rfl) (fun _ _ _ h=>h) (Or.inl ⟨by rfl,?_⟩) (by assumption) ?_
      rotate_left
      ·intro w hSw;(try dsimp only at hSw);go_simp;try with_reducible rfl
      go_simp
      refine wpAnyH_take (i:=6) (v:=?_) rfl (by kernel_rfl) (by kernel_rfl) (by kernel_rfl) (fun _ _ _ h=>h) (Or.inl ⟨by rfl,?_⟩) (by assumption) ?_
      rotate_left
      ·intro w hSw;(try dsimp only at hSw);go_simp;try with_reducible rfl
      go_simp
      refine wpAnyH_take (i:=7) (v:=?_) rfl (by kernel_rfl) (by kernel_rfl) (by kernel_rfl) (fun _ _ _ h=>h) (Or.inl ⟨by rfl,?_⟩) (by assumption) ?_
      rotate_left
      ·intro w hSw;(try dsimp only at hSw);go_simp;try with_reducible rfl
      go_simp
      refine wpAnyH_ready (rs:=[8]) (by kernel_rfl) (by simp) ?_
      refine AllReadyH.cons rfl (fun K hK=>?_) AllReadyH.nil
      go_simp
      have HPP:=Lib.hid (put_hr2 HI2.out.hr HM.out.num HM.out.me.ri HSM.out.1 nu x4 c5 HCN.out HRB.out.rf HLB.out.1 HLB.out.2.1 HLB.out.2.2)
      rw [HPE.out.1,HPE.out.2] at HPP
      refine HPP.out.mono ?_
      rintro e w3 ⟨rfl,F3,n3,hh3,hg3,hnn3⟩
      have HNC:=Lib.hid hnn3
      clear hnn3
      have HI3:=Lib.hid (HI2.out.goP hh3 hg3)
      have HO3:=Lib.hid (HO2.out.goP hg3)
      have HRC:=Lib.hid (HRB.out.goP hg3)
      clear hh3 hg3 HPP
      refine hK.out _ _ ?_ (fun hHeld=>?_)
      ·exact ⟨cell_slot (o:=1) HO3.out.hp rfl,cell_slot (o:=4) HO3.out.hp rfl,cell_slot (o:=5) HO3.out.hp rfl⟩
      clear hK K
      go_simp
      refine wpAnyH_take (i:=9) (v:=?_) rfl (by kernel_rfl) (by kernel_rfl) (by kernel_rfl) (fun _ _ _ h=>h) (Or.inl ⟨by rfl,?_⟩) (by assumption) ?_
      rotate_left
      ·intro w hSw;(try dsimp only at hSw);go_simp;try with_reducible rfl
      go_simp
      refine wpAnyH_take (i:=10) (v:=?_) rfl (by kernel_rfl) (by kernel_rfl) (by kernel_rfl) (fun _ _ _ h=>h) (Or.inl ⟨by rfl,?_⟩) (by assumption) ?_
      rotate_left
      ·intro w hSw;(try dsimp only at hSw);go_simp;try with_reducible rfl
      go_simp
      refine wpAnyH_take (i:=11) (v:=?_) rfl (by kernel_rfl) (by kernel_rfl) (by kernel_rfl) (fun _ _ _ h=>h) (Or.inl ⟨by rfl,?_⟩) (by assumption) ?_
      rotate_left
      ·intro w hSw;(try dsimp only at hSw);go_simp;try with_reducible rfl
      go_simp
      refine wpAnyH_take (i:=12) (v:=?_) rfl (by kernel_rfl) (by kernel_rfl) (by kernel_rfl) (fun _ _ _ h=>h) (Or.inl ⟨by rfl,?_⟩) (by assumption) ?_
      rotate_left
      ·intro w hSw;(try dsimp only at hSw);go_simp;try with_reducible rfl
      go_simp
      refine wpAnyH_take (i:=13) (v:=?_) rfl (by kernel_rfl) (by kernel_rfl) (by kernel_rfl) (fun _ _ _ h=>h) (Or.inl ⟨by rfl,?_⟩) (by assumption) ?_
      rotate_left
      ·intro w hSw;(try dsimp only at hSw);go_simp;try with_reducible rfl
      go_simp
      refine wpAnyH_done (by kernel_rfl) ?_ _
      go_upto_region 39 with (fail)
      obtain ⟨wf,hwf⟩:∃ x,w3.drew=x:=⟨_,rfl⟩
      have HI4:=HI3.out.below ((Below.refl _ _).drew)
      rw [hwf] at HI4
      have HI4:=Lib.hid HI4
      have HO4:Hid (OffB wf g F3 G (.cells #[.int .i64 x0,.int .i64 x1,.int .i64 x2,.int .i64 x3,.bool x4,.slice A5 x5.length c5] 69 (0,0))):=by rw [← hwf];exact HO3.out.below ((Below.refl _ _).drew)
      have HRD:Hid (RowB wf F3 G A5 x5):=by rw [← hwf];exact HRC.out.goP (Goes.below _ ((Below.refl _ _).drew))
      refine wp_region_held_drew (S:=(fun W:World=>W.cell? ⟨g,1,none⟩=some (.int .i64 x1)∧W.cell? ⟨g,4,none⟩=some (.bool x4)∧W.cell? ⟨g,5,none⟩=some (.slice A5 x5.length c5))) (by kernel_rfl) ?_ (fun hHeld=>?_)
      ·exact (hwf ▸ (⟨cell_slot (o:=1) HO4.out.hp rfl,cell_slot (o:=4) HO4.out.hp rfl,cell_slot (o:=5) HO4.out.hp rfl⟩:(fun W:World=>W.cell? ⟨g,1,none⟩=some (.int .i64 x1)∧W.cell? ⟨g,4,none⟩=some (.bool x4)∧W.cell? ⟨g,5,none⟩=some (.slice A5 x5.length c5)) wf))
      rw [hwf] at hHeld ⊢
      clear hwf
      refine wpAnyH_take (i:=0) (v:=?_) rfl (by kernel_rfl) (by kernel_rfl) (by kernel_rfl) (fun _ _ _ h=>h) (Or.inl ⟨by rfl,?_⟩) (by assumption) ?_
      rotate_left
      ·intro w hSw;(try dsimp only at hSw);go_simp;try with_reducible rfl
      go_simp
      refine wpAnyH_take (i:=1) (v:=?_) rfl (by kernel_rfl) (by kernel_rfl) (by kernel_rfl) (fun _ _ _ h=>h) (Or.inl ⟨by rfl,?_⟩) (by assumption) ?_
      rotate_left
      ·intro w hSw;(try dsimp only at hSw);go_simp;try with_reducible rfl
      go_simp
      refine wpAnyH_take (i:=2) (v:=?_) rfl (by kernel_rfl) (by kernel_rfl) (by kernel_rfl) (fun _ _ _ h=>h) (Or.inl ⟨by rfl,?_⟩) (by assumption) ?_
      rotate_left
      ·intro w hSw;(try dsimp only at hSw);go_simp;try with_reducible rfl
      go_simp
      refine Lc.take_call (i:=3) (v:=_) rfl (by kernel_rfl) (by kernel_rfl) (by kernel_rfl) (fun _ _ _ h=>h) ⟨by rfl,fun wS hSw=>⟨43,#[.int .i64 x1],?_,HNU.out wS⟩⟩ (by assumption) ?_
      ·go_simp;try with_reducible rfl
      go_simp
      refine wpAnyH_take (i:=4) (v:=?_) rfl (by kernel_rfl) (by kernel_rfl) (by kernel_rfl) (fun _ _ _ h=>h) (Or.inl ⟨by rfl,?_⟩) (by assumption) ?_
      rotate_left
      ·intro w hSw;(try dsimp only at hSw);go_simp;try with_reducible rfl
      go_simp
      refine wpAnyH_take (i:=5) (v:=?_) rfl (by kernel_rfl) (by kernel_rfl) (by kernel_rfl) (fun _ _ _ h=>h) (Or.inl ⟨by rfl,?_⟩) (by assumption) ?_
      rotate_left
      ·intro w hSw;(try dsimp only at hSw);go_simp;try with_reducible rfl
      go_simp
      refine wpAnyH_take (i:=6) (v:=?_) rfl (by kernel_rfl) (by kernel_rfl) (by kernel_rfl) (fun _ _ _ h=>h) (Or.inl ⟨by rfl,?_⟩) (by assumption) ?_
      rotate_left
      ·intro w hSw;(try dsimp only at hSw);go_simp;try with_reducible rfl
      go_simp
      refine wpAnyH_take (i:=7) (v:=?_) rfl (by kernel_rfl) (by kernel_rfl) (by kernel_rfl) (fun _ _ _ h=>h) (Or.inl ⟨by rfl,?_⟩) (by assumption) ?_
      rotate_left
      ·intro w hSw;(try dsimp only at hSw);go_simp;try with_reducible rfl
      go_simp
      refine wpAnyH_ready (rs:=[8]) (by kernel_rfl) (by simp) ?_
      refine AllReadyH.cons rfl (fun K hK=>?_) AllReadyH.nil
      go_simp
      have HPR:Hid (Calls Try.prog 44 #[.pointer (some ⟨q,0,none⟩),.int .i64 nu,.bool x4,.slice A5 x5.length c5] wf fun e w'=>e=.returned (.tuple #[.int .i64 b1,.int .i64 b2])∧∃ r',Me r' (putS s nu x4 x5).2.2∧RvTo wf w' q G r'):=by
       obtain ⟨u0,u4,hv⟩:=HI4.out.rv
       have:=rput_rv hv HM.out.me HM.out.bnd.2 HM.out.bnd.1 nu x4 x5 A5 c5 HRD.out.rg.1 HLB.out.1 HRD.out.rg.2 HLB.out.2.2
       rw [HPE.out.1,HPE.out.2] at this
       exact this
      refine HPR.out.mono ?_
      rintro e w5 ⟨rfl,r5,hm5,G5,a5,b5,hv5,hk5,hn5⟩
      have HI5:=Lib.hid (HI4.out.goR ⟨a5,b5,hv5⟩ ⟨hk5,hn5⟩)
      have HO5:=Lib.hid (HO4.out.goR ⟨hk5,hn5⟩)
      have HM5:=Lib.hid (HM.out.put HJN.out.1 _ _ _ hm5 HNC.out)
      clear hv5 hk5 hn5 hm5 HPR
      refine hK.out _ _ ?_ (fun hHeld=>?_)
      ·exact ⟨cell_slot (o:=1) HO5.out.hp rfl,cell_slot (o:=4) HO5.out.hp rfl,cell_slot (o:=5) HO5.out.hp rfl⟩
      clear hK K
      go_simp
      refine wpAnyH_take (i:=9) (v:=?_) rfl (by kernel_rfl) (by kernel_rfl) (by kernel_rfl) (fun _ _ _ h=>h) (Or.inl ⟨by rfl,?_⟩) (by assumption) ?_
      rotate_left
      ·intro w hSw;(try dsimp only at hSw);go_simp;try with_reducible rfl
      go_simp
      refine wpAnyH_take (i:=10) (v:=?_) rfl (by kernel_rfl) (by kernel_rfl) (by kernel_rfl) (fun _ _ _ h=>h) (Or.inl ⟨by rfl,?_⟩) (by assumption) ?_
      rotate_left
      ·intro w hSw;(try dsimp only at hSw);go_simp;try with_reducible rfl
      go_simp
      refine wpAnyH_take (i:=11) (v:=?_) rfl (by kernel_rfl) (by kernel_rfl) (by kernel_rfl) (fun _ _ _ h=>h) (Or.inl ⟨by rfl,?_⟩) (by assumption) ?_
      rotate_left
      ·intro w hSw;(try dsimp only at hSw);go_simp;try with_reducible rfl
      go_simp
      refine wpAnyH_take (i:=12) (v:=?_) rfl (by kernel_rfl) (by kernel_rfl) (by kernel_rfl) (fun _ _ _ h=>h) (Or.inl ⟨by rfl,?_⟩) (by assumption) ?_
      rotate_left
      ·intro w hSw;(try dsimp only at hSw);go_simp;try with_reducible rfl
      go_simp
      refine wpAnyH_take (i:=13) (v:=?_) rfl (by kernel_rfl) (by kernel_rfl) (by kernel_rfl) (fun _ _ _ h=>h) (Or.inl ⟨by rfl,?_⟩) (by assumption) ?_
      rotate_left
      ·intro w hSw;(try dsimp only at hSw);go_simp;try with_reducible rfl
      go_simp
      refine wpAnyH_done (by kernel_rfl) ?_ _
      have HJ:Hid (RX w _ p q (j+1) g (.cells #[.int .i64 x0,.int .i64 x1,.int .i64 x2,.int .i64 x3,.bool x4,.slice A5 x5.length c5] 69 (0,0))):=⟨_,_,_,_,_,HI5.out,HM5.out,HO5.out⟩
      go_wp2_with fail
      go_meet
      exact HJ
    have h5b:(k == 5)=false:=by simpa using h5
    clear h5
    clear hp10
    as_aux_lemma =>
     have HSM:=Lib.hid (HM.out.small)
     have HCN:Hid ((n:Int)≤cnt s.es):=HM.out.cnt
     have g1:=cell_slot (o:=1) HO1.out.hp rfl
     have htp:0≤s.top∧s.top≤225000000000000:=by have h1:=HM.out.me.ri.top;have h2:=HSM.out;omega
     obtain ⟨tp,htp2⟩:∃ z,s.top=z:=⟨_,rfl⟩
     rw [htp2] at htp
     obtain ⟨u0,u4,hv⟩:=HI1.out.rv
     have d5:=hv.cells.2.2.2.2.2.1
     rw [HM.out.me.top,htp2] at d5
     have hw30:IntKind.i64.wrap (tp+30)=tp+30:=IntWalk.i64_in _ (by omega)
     obtain ⟨mx,hmx⟩:∃ z,max 1 (tp+30)=z:=⟨_,rfl⟩
     have hmx1:0<mx∧mx≤9223372036854775807:=by omega
     obtain ⟨off,hoff⟩:∃ z,x1 % mx=z:=⟨_,rfl⟩
     have HP1:Hid (∀ W,Calls Try.prog 5 #[.int .i64 x1,.int .i64 mx] W fun e w'=>e=.returned (.int .i64 off)∧w'=W):=fun W=>by
      rw [← hoff];exact (pick_any x1 mx W hmx1.1 (by omega)).mono fun _ _ h=>⟨h.1,h.2.symm⟩
     clear hv hoff hmx1 htp htp2
     go_upto_region 9 with (fail)
     go_quiet ((go_at_call 5;exact Calls.quiet_of_same (HP1.out _)))
     obtain ⟨wy,hwy⟩:∃ x,w1.drewN nq=x:=⟨_,rfl⟩
     have HI2:Hid (TB w wy p n F s q G r):=by rw [← hwy];exact HI1.out.below ⟨rfl,rfl,rfl,Nat.le_refl _,fun _ _=>rfl⟩
     have HO2:Hid (OffB wy g F G (.cells #[.int .i64 x0,.int .i64 x1,.int .i64 x2,.int .i64 x3,.bool x4,.slice A5 x5.length c5] 69 (0,0))):=by rw [← hwy];exact HO1.out.below ⟨rfl,rfl,rfl,Nat.le_refl _,fun _ _=>rfl⟩
     rw [hwy]
     clear hwy d5 g1 hw30 hmx HP1
     obtain ⟨n4,hn4,hn40⟩:∃ z:Nat,x2 % 40=(z:Int)∧z<40:=⟨(x2 % 40).toNat,by omega,by omega⟩
     have HP2:Hid (∀ W,Calls Try.prog 5 #[.int .i64 x2,.int .i64 40] W fun e w'=>e=.returned (.int .i64 (n4:Int))∧w'=W):=fun W=>by
      rw [← hn4];exact (pick_any x2 40 W (by decide) (by decide)).mono fun _ _ h=>⟨h.1,h.2.symm⟩
     clear hn4
     have g2:=cell_slot (o:=2) HO2.out.hp rfl
     have g5:=cell_slot (o:=5) HO2.out.hp rfl
     go_upto_region 10 with (fail)
     refine Se.still_tail 5 (by kernel_rfl) (by kernel_rfl) ?_
     intro wz hwz
     have hwz2:wz=wy.drewN 1:=hwz
     have HI3:Hid (TB w wz p n F s q G r):=by rw [hwz2];exact HI2.out.below ⟨rfl,rfl,rfl,Nat.le_refl _,fun _ _=>rfl⟩
     have HO3:Hid (OffB wz g F G (.cells #[.int .i64 x0,.int .i64 x1,.int .i64 x2,.int .i64 x3,.bool x4,.slice A5 x5.length c5] 69 (0,0))):=by rw [hwz2];exact HO2.out.below ⟨rfl,rfl,rfl,Nat.le_refl _,fun _ _=>rfl⟩
     clear hwz hwz2 g2 g5
     have g2:=cell_slot (o:=2) HO3.out.hp rfl
     have g5:=cell_slot (o:=5) HO3.out.hp rfl
     have HRX:=Lib.hid (HI3.out.old HX4.out.r5)
     simp only [List.take_succ_cons,List.take_zero,List.drop_succ_cons,List.drop_zero]
     iterate 4 still_step
     still_call (HP2.out _)
     refine wpStill_nil ?_
     have HTX:=Lib.hid (text_any x5 A5 c5 n4 wz HRX.out.rf.1 (by omega) HX4.out.l5 HX4.out.u5)
     go_wp2_with fail
     refine HTX.out.mono ?_
     rintro e w3 ⟨A3,c3,rfl,out,ho1,ho2,ho3,ho4⟩
     obtain ⟨_,_,e3,hc3,_,_,hrd3⟩:=own_form ho3
     simp only [Value.slice.injEq] at e3
     obtain ⟨rfl,_,rfl⟩:=e3
     subst ho1
     have HI4:=Lib.hid (HI3.out.below ho4)
     have HO4:=Lib.hid (HO3.out.below ho4)
     have HRB:=Lib.hid (HI3.out.own (base:=0) ho4 ho3)
     have HLB:Hid (out.length≤c3∧(∀ x ∈ out,x<256)∧out.length≤140737488355328):=⟨hc3,ho2,by omega⟩
     clear ho2 ho3 ho4 hrd3 hc3 HTX g2 g5 HRX
     have g3:=cell_slot (o:=3) HO4.out.hp rfl
     have g4:=cell_slot (o:=4) HO4.out.hp rfl
     go_upto_region 11 with (fail)
     go_cut [26] (fun v wx=>∃ fb,v=.bool fb∧wx=w3)
     case first =>
      cases x4
      ·go_wp2_with fail
       go_meet
       exact ⟨_,rfl,rfl⟩
      ·go_wp2_with fail
       go_meet
       exact ⟨_,rfl,rfl⟩
     case rest =>
      obtain ⟨fb,rfl,rfl⟩:=hcut
      clear g3 g4
      obtain ⟨b1,hb1⟩:∃ z,(putS s off fb out).1=z:=⟨_,rfl⟩
      obtain ⟨b2,hb2⟩:∃ z,(putS s off fb out).2.1=z:=⟨_,rfl⟩
      have HPE:=Lib.hid (And.intro hb1 hb2)
      clear hb1 hb2
      go_wp2_with fail
      have HPP:=Lib.hid (put_hr2 HI4.out.hr HM.out.num HM.out.me.ri HSM.out.1 off fb c3 HCN.out HRB.out.rf HLB.out.1 HLB.out.2.1 HLB.out.2.2)
      rw [HPE.out.1,HPE.out.2] at HPP
      refine HPP.out.mono ?_
      rintro e w5 ⟨rfl,F5,n5,hh5,hg5,hnn5⟩
      have HNC:=Lib.hid hnn5
      clear hnn5
      have HI5:=Lib.hid (HI4.out.goP hh5 hg5)
      have HO5:=Lib.hid (HO4.out.goP hg5)
      have HRC:=Lib.hid (HRB.out.goP hg5)
      clear hh5 hg5 HPP
      go_wp2_with fail
      have HPR:Hid (Calls Try.prog 44 #[.pointer (some ⟨q,0,none⟩),.int .i64 off,.bool fb,.slice A3 out.length c3] w5 fun e w'=>e=.returned (.tuple #[.int .i64 b1,.int .i64 b2])∧∃ r',Me r' (putS s off fb out).2.2∧RvTo w5 w' q G r'):=by
       obtain ⟨u0,u4,hv⟩:=HI5.out.rv
       have:=rput_rv hv HM.out.me HM.out.bnd.2 HM.out.bnd.1 off fb out A3 c3 HRC.out.rg.1 HLB.out.1 HRC.out.rg.2 HLB.out.2.2
       rw [HPE.out.1,HPE.out.2] at this
       exact this
      refine HPR.out.mono ?_
      rintro e w6 ⟨rfl,r6,hm6,G6,a6,b6,hv6,hk6,hn6⟩
      have HI6:=Lib.hid (HI5.out.goR ⟨a6,b6,hv6⟩ ⟨hk6,hn6⟩)
      have HO6:=Lib.hid (HO5.out.goR ⟨hk6,hn6⟩)
      have HM6:=Lib.hid (HM.out.put HJN.out.1 _ _ _ hm6 HNC.out)
      clear hv6 hk6 hn6 hm6 HPR
      have HJ:Hid (RX w _ p q (j+1) g (.cells #[.int .i64 x0,.int .i64 x1,.int .i64 x2,.int .i64 x3,.bool x4,.slice A5 x5.length c5] 69 (0,0))):=⟨_,_,_,_,_,HI6.out,HM6.out,HO6.out⟩
      go_wp2_with fail
      go_meet
      exact HJ
   case rest =>
    as_aux_lemma =>
     obtain ⟨n,F,s,G,r,hI,hM,hO⟩:=hcut.out
     have HI:=Lib.hid hI
     have HM:=Lib.hid hM
     have HO:=Lib.hid hO
     clear hI hM hO hcut
     have HSM:=Lib.hid (HM.out.small)
     have htp:0≤s.top∧s.top≤225000000000000∧0≤s.tk∧s.tk≤225000000000000:=by have h1:=HM.out.me.ri.top;have h2:=HSM.out;omega
     go_upto_region 42 with (fail)
     obtain ⟨wd,hwd⟩:∃ x,wc.drew=x:=⟨_,rfl⟩
     have HI2:Hid (TB w wd p n F s q G r):=by rw [← hwd];exact HI.out.below ((Below.refl _ _).drew)
     have HO2:Hid (OffB wd g F G (.cells #[.int .i64 x0,.int .i64 x1,.int .i64 x2,.int .i64 x3,.bool x4,.slice A5 x5.length c5] 69 (0,0))):=by rw [← hwd];exact HO.out.below ((Below.refl _ _).drew)
     obtain ⟨tp,e1⟩:∃ z,s.top=z:=⟨_,rfl⟩
     obtain ⟨tk,e2⟩:∃ z,s.tk=z:=⟨_,rfl⟩
     obtain ⟨tl,e3⟩:∃ z,s.tl=z:=⟨_,rfl⟩
     obtain ⟨rd,e4⟩:∃ z,s.rd=z:=⟨_,rfl⟩
     obtain ⟨en,e5⟩:∃ z,r.en=z:=⟨_,rfl⟩
     obtain ⟨be,e6⟩:∃ z,s.en=z:=⟨_,rfl⟩
     obtain ⟨ct,e7⟩:∃ z,cnt s.es=z:=⟨_,rfl⟩
     obtain ⟨z3,hz3⟩:∃ z,x1.tmod 300=z:=⟨_,rfl⟩
     obtain ⟨hs,e8⟩:∃ z,mem s.es z3=z:=⟨_,rfl⟩
     rw [e1,e2] at htp
     have hge:decide (0≤en)=be:=by
      rw [← e5,HM.out.me.en,e6,e1]
      cases be
      ·rw [if_neg (by simp)];decide
      ·rw [if_pos rfl];exact decide_eq_true htp.1
     obtain ⟨rs,hrs⟩:∃ z,tp - tk=z:=⟨_,rfl⟩
     have hwr:IntKind.i64.wrap (tp - tk)=rs:=by rw [← hrs];exact IntWalk.i64_in _ (by omega)
     have HS:Hid (∀ W,Below wd.heap.size wd W→(fun W:World=>W.cell? ⟨q,5,none⟩=some (.int .i64 tp)∧W.cell? ⟨q,6,none⟩=some (.int .i64 en)∧W.cell? ⟨q,10,none⟩=some (.int .i64 tk)∧W.cell? ⟨p,3,none⟩=some (.int .i64 tl)∧W.cell? ⟨p,2,none⟩=some (.int .i64 rd)∧W.cell? ⟨q,3,none⟩=some (.int .i64 tl)∧W.cell? ⟨q,2,none⟩=some (.int .i64 rd)∧W.cell? ⟨g,1,none⟩=some (.int .i64 x1)) W):=fun W hW=>by
      obtain ⟨v0,v4,k1⟩:=(HI2.out.below hW).rv
      have k2:=(HI2.out.below hW).hr.read
      have k3:=k1.cells
      have k4:=HM.out.me
      refine ⟨?_,?_,?_,?_,?_,?_,?_,cell_slot (HO2.out.below hW).hp rfl⟩
      ·rw [← e1,← k4.top];exact k3.2.2.2.2.2.1
      ·rw [← e5];exact k3.2.2.2.2.2.2.1
      ·rw [← e2,← k4.tk];exact k3.2.2.2.2.2.2.2.2.2.2.1
      ·rw [← e3];exact k2.2
      ·rw [← e4];exact k2.1
      ·rw [← e3,← k4.tl];exact k3.2.2.2.1
      ·rw [← e4,← k4.rd];exact k3.2.2.1
     have HC1:Hid (∀ W,Below wd.heap.size wd W→Calls Try.prog 45 #[.pointer (some ⟨p,0,none⟩)] W fun e w'=>e=.returned (.int .i64 tp)∧Below W.heap.size W w'):=fun W hW=>by
      have:=top_hr (HI2.out.below hW).hr
      rw [e1] at this
      exact this.mono fun _ _ h=>⟨h.1,by rw [h.2];exact Below.refl _ _⟩
     have HC2:Hid (∀ W,Below wd.heap.size wd W→Calls Try.prog 46 #[.pointer (some ⟨p,0,none⟩)] W fun e w'=>e=.returned (.bool be)∧Below W.heap.size W w'):=fun W hW=>by
      have:=ended_hr (HI2.out.below hW).hr
      rw [e6] at this
      exact this.mono fun _ _ h=>⟨h.1,by rw [h.2];exact Below.refl _ _⟩
     have HC3:Hid (∀ W,Below wd.heap.size wd W→Calls Try.prog 47 #[.pointer (some ⟨p,0,none⟩)] W fun e w'=>e=.returned (.int .i64 rs)∧Below W.heap.size W w'):=fun W hW=>by
      have:=rest_hr (HI2.out.below hW).hr (by rw [e1];omega) (by rw [e2];omega)
      rw [e1,e2,hrs] at this
      exact this.mono fun _ _ h=>⟨h.1,by obtain ⟨z,hz⟩:=h.2;rw [hz];exact ⟨rfl,rfl,rfl,Nat.le_refl _,fun _ _=>rfl⟩⟩
     have HC4:Hid (∀ W,Below wd.heap.size wd W→Calls Try.prog 48 #[.pointer (some ⟨p,0,none⟩)] W fun e w'=>e=.returned (.int .i64 ct)∧Below W.heap.size W w'):=fun W hW=>by
      have:=count_hr (HI2.out.below hW).hr HM.out.num.len
      rw [e7] at this
      exact this
     have HC5:Hid (∀ W,Below wd.heap.size wd W→Calls Try.prog 49 #[.pointer (some ⟨q,0,none⟩)] W fun e w'=>e=.returned (.int .i64 ct)∧Below W.heap.size W w'):=fun W hW=>by
      obtain ⟨v0,v4,k1⟩:=(HI2.out.below hW).rv
      have:=rcount_rv k1 (by rw [HM.out.me.es];have:=HM.out.bnd.2;omega)
      rw [HM.out.me.es,e7] at this
      exact this
     have HC6:Hid (∀ W,Below wd.heap.size wd W→Calls Try.prog 50 #[.pointer (some ⟨p,0,none⟩),.int .i64 z3] W fun e w'=>e=.returned (.bool hs)∧Below W.heap.size W w'):=fun W hW=>by
      have:=has_hr (HI2.out.below hW).hr HM.out.num.len z3
      rw [e8] at this
      exact this
     have HC7:Hid (∀ W,Below wd.heap.size wd W→Calls Try.prog 51 #[.pointer (some ⟨q,0,none⟩),.int .i64 z3] W fun e w'=>e=.returned (.bool hs)∧Below W.heap.size W w'):=fun W hW=>by
      obtain ⟨v0,v4,k1⟩:=(HI2.out.below hW).rv
      have:=rhas_rv k1 (by rw [HM.out.me.es];have:=HM.out.bnd.2;omega) z3
      rw [HM.out.me.es,e8] at this
      exact this.mono fun _ _ h=>⟨h.1,by rw [h.2];exact Below.refl _ _⟩
     have HB1:Hid (Below wd.heap.size wd wd):=Below.refl _ _
     clear e1 e2 e3 e4 e5 e6 e7 e8 hrs htp
     refine wp_region_held_drew (S:=(fun W:World=>W.cell? ⟨q,5,none⟩=some (.int .i64 tp)∧W.cell? ⟨q,6,none⟩=some (.int .i64 en)∧W.cell? ⟨q,10,none⟩=some (.int .i64 tk)∧W.cell? ⟨p,3,none⟩=some (.int .i64 tl)∧W.cell? ⟨p,2,none⟩=some (.int .i64 rd)∧W.cell? ⟨q,3,none⟩=some (.int .i64 tl)∧W.cell? ⟨q,2,none⟩=some (.int .i64 rd)∧W.cell? ⟨g,1,none⟩=some (.int .i64 x1))) (by kernel_rfl) ?_ (fun hHeld=>?_)
     ·exact (hwd ▸ HS.out _ HB1.out)
     rw [hwd] at hHeld ⊢
     clear hwd
     refine wpAnyH_take (i:=0) (v:=?_) rfl (by kernel_rfl) (by kernel_rfl) (by kernel_rfl) (fun _ _ _ h=>h) (Or.inl ⟨by rfl,?_⟩) (by assumption) ?_
     rotate_left
     ·intro w hSw;(try dsimp only at hSw);go_simp;try with_reducible rfl
     go_simp
     refine wpAnyH_take (i:=2) (v:=?_) rfl (by kernel_rfl) (by kernel_rfl) (by kernel_rfl) (fun _ _ _ h=>h) (Or.inl ⟨by rfl,?_⟩) (by assumption) ?_
     rotate_left
     ·intro w hSw;(try dsimp only at hSw);go_simp;try with_reducible rfl
     go_simp
     refine wpAnyH_take (i:=3) (v:=?_) rfl (by kernel_rfl) (by kernel_rfl) (by kernel_rfl) (fun _ _ _ h=>h) (Or.inl ⟨by rfl,?_⟩) (by assumption) ?_
     rotate_left
     ·intro w hSw;(try dsimp only at hSw);go_simp;try with_reducible rfl
     go_simp
     refine wpAnyH_take (i:=4) (v:=?_) rfl (by kernel_rfl) (by kernel_rfl) (by kernel_rfl) (fun _ _ _ h=>h) (Or.inl ⟨by rfl,?_⟩) (by assumption) ?_
     rotate_left
     ·intro w hSw;(try dsimp only at hSw);go_simp;try with_reducible rfl
     go_simp
     refine wpAnyH_take (i:=5) (v:=?_) rfl (by kernel_rfl) (by kernel_rfl) (by kernel_rfl) (fun _ _ _ h=>h) (Or.inl ⟨by rfl,?_⟩) (by assumption) ?_
     rotate_left
     ·intro w hSw;(try dsimp only at hSw);go_simp;try with_reducible rfl
     go_simp
     as_aux_lemma =>
      refine wpAnyH_ready (rs:=[1]) (by kernel_rfl) (by simp) ?_
      refine AllReadyH.cons rfl (fun K hK=>?_) AllReadyH.nil
      go_simp
      refine (HC1.out _ HB1.out).mono ?_
      rintro e w2 ⟨rfl,hb2⟩
      have HB2:Hid (Below wd.heap.size wd w2):=HB1.out.trans (hb2.mono HB1.out.size)
      clear hb2
      refine hK.out _ _ ?_ (fun hHeld=>?_)
      ·exact HS.out _ HB2.out
      clear hK K
      go_simp
      refine wpAnyH_take (i:=6) (v:=?_) rfl (by kernel_rfl) (by kernel_rfl) (by kernel_rfl) (fun _ _ _ h=>h) (Or.inl ⟨by rfl,?_⟩) (by assumption) ?_
      rotate_left
      ·intro w hSw;(try dsimp only at hSw);go_simp;try with_reducible rfl
      go_simp
      refine wpAnyH_take (i:=7) (v:=?_) rfl (by kernel_rfl) (by kernel_rfl) (by kernel_rfl) (fun _ _ _ h=>h) (Or.inl ⟨by rfl,?_⟩) (by assumption) ?_
      rotate_left
      ·intro w hSw;(try dsimp only at hSw);go_simp;try with_reducible rfl
      go_simp
      refine wpAnyH_take (i:=8) (v:=?_) rfl (by kernel_rfl) (by kernel_rfl) (by kernel_rfl) (fun _ _ _ h=>h) (Or.inl ⟨by rfl,?_⟩) (by assumption) ?_
      rotate_left
      ·intro w hSw;(try dsimp only at hSw);go_simp;try with_reducible rfl
      go_simp
      refine wpAnyH_take (i:=10) (v:=?_) rfl (by kernel_rfl) (by kernel_rfl) (by kernel_rfl) (fun _ _ _ h=>h) (Or.inl ⟨by rfl,?_⟩) (by assumption) ?_
      rotate_left
      ·intro w hSw;(try dsimp only at hSw);go_simp;try with_reducible rfl
      go_simp
      refine wpAnyH_take (i:=11) (v:=?_) rfl (by kernel_rfl) (by kernel_rfl) (by kernel_rfl) (fun _ _ _ h=>h) (Or.inl ⟨by rfl,?_⟩) (by assumption) ?_
      rotate_left
      ·intro w hSw;(try dsimp only at hSw);go_simp;try with_reducible rfl
      go_simp
      refine wpAnyH_take (i:=12) (v:=?_) rfl (by kernel_rfl) (by kernel_rfl) (by kernel_rfl) (fun _ _ _ h=>h) (Or.inl ⟨by rfl,?_⟩) (by assumption) ?_
      rotate_left
      ·intro w hSw;(try dsimp only at hSw);go_simp;try with_reducible rfl
      go_simp
      refine wpAnyH_take (i:=13) (v:=?_) rfl (by kernel_rfl) (by kernel_rfl) (by kernel_rfl) (fun _ _ _ h=>h) (Or.inl ⟨by rfl,?_⟩) (by assumption) ?_
      rotate_left
      ·intro w hSw;(try dsimp only at hSw);go_simp;try with_reducible rfl
      go_simp
      refine wpAnyH_take (i:=14) (v:=?_) rfl (by kernel_rfl) (by kernel_rfl) (by kernel_rfl) (fun _ _ _ h=>h) (Or.inl ⟨by rfl,?_⟩) (by assumption) ?_
      rotate_left
      ·intro w hSw;(try dsimp only at hSw);go_simp;try with_reducible rfl
      go_simp
      as_aux_lemma =>
       refine wpAnyH_ready (rs:=[9]) (by kernel_rfl) (by simp) ?_
       refine AllReadyH.cons rfl (fun K hK=>?_) AllReadyH.nil
       go_simp
       refine (HC2.out _ HB2.out).mono ?_
       rintro e w3 ⟨rfl,hb3⟩
       have HB3:Hid (Below wd.heap.size wd w3):=HB2.out.trans (hb3.mono HB2.out.size)
       clear hb3
       refine hK.out _ _ ?_ (fun hHeld=>?_)
       ·exact HS.out _ HB3.out
       clear hK K
       go_simp
       refine wpAnyH_take (i:=15) (v:=?_) rfl (by kernel_rfl) (by kernel_rfl) (by kernel_rfl) (fun _ _ _ h=>h) (Or.inl ⟨by rfl,?_⟩) (by assumption) ?_
       rotate_left
       ·intro w hSw;(try dsimp only at hSw);go_simp;try with_reducible rfl
       go_simp
       refine wpAnyH_take (i:=16) (v:=?_) rfl (by kernel_rfl) (by kernel_rfl) (by kernel_rfl) (fun _ _ _ h=>h) (Or.inl ⟨by rfl,?_⟩) (by assumption) ?_
       rotate_left
       ·intro w hSw;(try dsimp only at hSw);go_simp;try with_reducible rfl
       go_simp
       refine wpAnyH_take (i:=17) (v:=?_) rfl (by kernel_rfl) (by kernel_rfl) (by kernel_rfl) (fun _ _ _ h=>h) (Or.inl ⟨by rfl,?_⟩) (by assumption) ?_
       rotate_left
       ·intro w hSw;(try dsimp only at hSw);go_simp;try with_reducible rfl
       go_simp
       refine wpAnyH_take (i:=18) (v:=?_) rfl (by kernel_rfl) (by kernel_rfl) (by kernel_rfl) (fun _ _ _ h=>h) (Or.inl ⟨by rfl,?_⟩) (by assumption) ?_
       rotate_left
       ·intro w hSw;(try dsimp only at hSw);go_simp;try with_reducible rfl
       go_simp
       refine wpAnyH_take (i:=20) (v:=?_) rfl (by kernel_rfl) (by kernel_rfl) (by kernel_rfl) (fun _ _ _ h=>h) (Or.inl ⟨by rfl,?_⟩) (by assumption) ?_
       rotate_left
       ·intro w hSw;(try dsimp only at hSw);go_simp;try with_reducible rfl
       go_simp
       refine wpAnyH_take (i:=21) (v:=?_) rfl (by kernel_rfl) (by kernel_rfl) (by kernel_rfl) (fun _ _ _ h=>h) (Or.inl ⟨by rfl,?_⟩) (by assumption) ?_
       rotate_left
       ·intro w hSw;(try dsimp only at hSw);go_simp;try with_reducible rfl
       go_simp
       refine wpAnyH_take (i:=22) (v:=?_) rfl (by kernel_rfl) (by kernel_rfl) (by kernel_rfl) (fun _ _ _ h=>h) (Or.inl ⟨by rfl,?_⟩) (by assumption) ?_
       rotate_left
       ·intro w hSw;(try dsimp only at hSw);go_simp;try with_reducible rfl
       go_simp
       refine wpAnyH_take (i:=23) (v:=?_) rfl (by kernel_rfl) (by kernel_rfl) (by kernel_rfl) (fun _ _ _ h=>h) (Or.inl ⟨by rfl,?_⟩) (by assumption) ?_
       rotate_left
       ·intro w hSw;(try dsimp only at hSw);go_simp;try with_reducible rfl
       go_simp
       as_aux_lemma =>
        refine wpAnyH_take (i:=24) (v:=?_) rfl (by kernel_rfl) (by kernel_rfl) (by kernel_rfl) (fun _ _ _ h=>h) (Or.inl ⟨by rfl,?_⟩) (by assumption) ?_
        rotate_left
        ·intro w hSw;(try dsimp only at hSw);go_simp;try with_reducible rfl
        go_simp
        refine wpAnyH_take (i:=25) (v:=?_) rfl (by kernel_rfl) (by kernel_rfl) (by kernel_rfl) (fun _ _ _ h=>h) (Or.inl ⟨by rfl,?_⟩) (by assumption) ?_
        rotate_left
        ·intro w hSw;(try dsimp only at hSw);go_simp;try with_reducible rfl
        go_simp
        refine wpAnyH_take (i:=26) (v:=?_) rfl (by kernel_rfl) (by kernel_rfl) (by kernel_rfl) (fun _ _ _ h=>h) (Or.inl ⟨by rfl,?_⟩) (by assumption) ?_
        rotate_left
        ·intro w hSw;(try dsimp only at hSw);go_simp;try with_reducible rfl
        go_simp
        refine wpAnyH_take (i:=27) (v:=?_) rfl (by kernel_rfl) (by kernel_rfl) (by kernel_rfl) (fun _ _ _ h=>h) (Or.inl ⟨by rfl,?_⟩) (by assumption) ?_
        rotate_left
        ·intro w hSw;(try dsimp only at hSw);go_simp;try with_reducible rfl
        go_simp
        refine wpAnyH_take (i:=28) (v:=?_) rfl (by kernel_rfl) (by kernel_rfl) (by kernel_rfl) (fun _ _ _ h=>h) (Or.inl ⟨by rfl,?_⟩) (by assumption) ?_
        rotate_left
        ·intro w hSw;(try dsimp only at hSw);go_simp;try with_reducible rfl
        go_simp
        as_aux_lemma =>
         refine wpAnyH_ready (rs:=[19]) (by kernel_rfl) (by simp) ?_
         refine AllReadyH.cons rfl (fun K hK=>?_) AllReadyH.nil
         go_simp
         refine (HC3.out _ HB3.out).mono ?_
         rintro e w4 ⟨rfl,hb4⟩
         have HB4:Hid (Below wd.heap.size wd w4):=HB3.out.trans (hb4.mono HB3.out.size)
         clear hb4
         refine hK.out _ _ ?_ (fun hHeld=>?_)
         ·exact HS.out _ HB4.out
         clear hK K
         go_simp
         refine wpAnyH_take (i:=29) (v:=?_) rfl (by kernel_rfl) (by kernel_rfl) (by kernel_rfl) (fun _ _ _ h=>h) (Or.inl ⟨by rfl,?_⟩) (by assumption) ?_
         rotate_left
         ·intro w hSw;(try dsimp only at hSw);go_simp;try with_reducible rfl
         go_simp
         refine wpAnyH_take (i:=30) (v:=?_) rfl (by kernel_rfl) (by kernel_rfl) (by kernel_rfl) (fun _ _ _ h=>h) (Or.inl ⟨by rfl,?_⟩) (by assumption) ?_
         rotate_left
         ·intro w hSw;(try dsimp only at hSw);go_simp;try with_reducible rfl
         go_simp
         refine wpAnyH_take (i:=31) (v:=?_) rfl (by kernel_rfl) (by kernel_rfl) (by kernel_rfl) (fun _ _ _ h=>h) (Or.inl ⟨by rfl,?_⟩) (by assumption) ?_
         rotate_left
         ·intro w hSw;(try dsimp only at hSw);go_simp;try with_reducible rfl
         go_simp
         refine wpAnyH_take (i:=32) (v:=?_) rfl (by kernel_rfl) (by kernel_rfl) (by kernel_rfl) (fun _ _ _ h=>h) (Or.inl ⟨by rfl,?_⟩) (by assumption) ?_
         rotate_left
         ·intro w hSw;(try dsimp only at hSw);go_simp;try with_reducible rfl
         go_simp
         refine wpAnyH_take (i:=33) (v:=?_) rfl (by kernel_rfl) (by kernel_rfl) (by kernel_rfl) (fun _ _ _ h=>h) (Or.inl ⟨by rfl,?_⟩) (by assumption) ?_
         rotate_left
         ·intro w hSw;(try dsimp only at hSw);go_simp;try with_reducible rfl
         go_simp
         refine wpAnyH_take (i:=34) (v:=?_) rfl (by kernel_rfl) (by kernel_rfl) (by kernel_rfl) (fun _ _ _ h=>h) (Or.inl ⟨by rfl,?_⟩) (by assumption) ?_
         rotate_left
         ·intro w hSw;(try dsimp only at hSw);go_simp;try with_reducible rfl
         go_simp
         as_aux_lemma =>
          refine wpAnyH_take (i:=36) (v:=?_) rfl (by kernel_rfl) (by kernel_rfl) (by kernel_rfl) (fun _ _ _ h=>h) (Or.inl ⟨by rfl,?_⟩) (by assumption) ?_
          rotate_left
          ·intro w hSw;(try dsimp only at hSw);go_simp;try with_reducible rfl
          go_simp
          refine wpAnyH_take (i:=37) (v:=?_) rfl (by kernel_rfl) (by kernel_rfl) (by kernel_rfl) (fun _ _ _ h=>h) (Or.inl ⟨by rfl,?_⟩) (by assumption) ?_
          rotate_left
          ·intro w hSw;(try dsimp only at hSw);go_simp;try with_reducible rfl
          go_simp
          refine wpAnyH_take (i:=38) (v:=?_) rfl (by kernel_rfl) (by kernel_rfl) (by kernel_rfl) (fun _ _ _ h=>h) (Or.inl ⟨by rfl,?_⟩) (by assumption) ?_
          rotate_left
          ·intro w hSw;(try dsimp only at hSw);go_simp;try with_reducible rfl
          go_simp
          refine wpAnyH_ready (rs:=[35]) (by kernel_rfl) (by simp) ?_
          refine AllReadyH.cons rfl (fun K hK=>?_) AllReadyH.nil
          go_simp
          refine (HC4.out _ HB4.out).mono ?_
          rintro e w5 ⟨rfl,hb5⟩
          have HB5:Hid (Below wd.heap.size wd w5):=HB4.out.trans (hb5.mono HB4.out.size)
          clear hb5
          refine hK.out _ _ ?_ (fun hHeld=>?_)
          ·exact HS.out _ HB5.out
          clear hK K
          go_simp
          as_aux_lemma =>
           refine wpAnyH_ready (rs:=[39]) (by kernel_rfl) (by simp) ?_
           refine AllReadyH.cons rfl (fun K hK=>?_) AllReadyH.nil
           go_simp
           refine (HC5.out _ HB5.out).mono ?_
           rintro e w6 ⟨rfl,hb6⟩
           have HB6:Hid (Below wd.heap.size wd w6):=HB5.out.trans (hb6.mono HB5.out.size)
           clear hb6
           refine hK.out _ _ ?_ (fun hHeld=>?_)
           ·exact HS.out _ HB6.out
           clear hK K
           go_simp
           refine wpAnyH_take (i:=40) (v:=?_) rfl (by kernel_rfl) (by kernel_rfl) (by kernel_rfl) (fun _ _ _ h=>h) (Or.inl ⟨by rfl,?_⟩) (by assumption) ?_
           rotate_left
           ·intro w hSw;(try dsimp only at hSw);go_simp;try with_reducible rfl
           go_simp
           refine wpAnyH_take (i:=41) (v:=?_) rfl (by kernel_rfl) (by kernel_rfl) (by kernel_rfl) (fun _ _ _ h=>h) (Or.inl ⟨by rfl,?_⟩) (by assumption) ?_
           rotate_left
           ·intro w hSw;(try dsimp only at hSw);go_simp;try with_reducible rfl
           go_simp
           refine wpAnyH_take (i:=42) (v:=?_) rfl (by kernel_rfl) (by kernel_rfl) (by kernel_rfl) (fun _ _ _ h=>h) (Or.inl ⟨by rfl,?_⟩) (by assumption) ?_
           rotate_left
           ·intro w hSw;(try dsimp only at hSw);go_simp;try with_reducible rfl
           go_simp
           as_aux_lemma =>
            refine wpAnyH_take (i:=43) (v:=?_) rfl (by kernel_rfl) (by kernel_rfl) (by kernel_rfl) (fun _ _ _ h=>h) (Or.inl ⟨by rfl,?_⟩) (by assumption) ?_
            rotate_left
            ·intro w hSw;(try dsimp only at hSw);go_simp;try with_reducible rfl
            go_simp
            refine wpAnyH_take (i:=44) (v:=?_) rfl (by kernel_rfl) (by kernel_rfl) (by kernel_rfl) (fun _ _ _ h=>h) (Or.inl ⟨by rfl,?_⟩) (by assumption) ?_
            rotate_left
            ·intro w hSw;(try dsimp only at hSw);go_simp;try with_reducible rfl
            go_simp
            refine wpAnyH_take (i:=45) (v:=?_) rfl (by kernel_rfl) (by kernel_rfl) (by kernel_rfl) (fun _ _ _ h=>h) (Or.inl ⟨by rfl,?_⟩) (by assumption) ?_
            rotate_left
            ·intro w hSw;(try dsimp only at hSw);go_simp;try with_reducible rfl
            go_simp
            refine wpAnyH_take (i:=46) (v:=?_) rfl (by kernel_rfl) (by kernel_rfl) (by kernel_rfl) (fun _ _ _ h=>h) (Or.inl ⟨by rfl,?_⟩) (by assumption) ?_
            rotate_left
            ·intro w hSw;(try dsimp only at hSw);go_simp;try with_reducible rfl
            go_simp
            refine wpAnyH_take (i:=47) (v:=?_) rfl (by kernel_rfl) (by kernel_rfl) (by kernel_rfl) (fun _ _ _ h=>h) (Or.inl ⟨by rfl,?_⟩) (by assumption) ?_
            rotate_left
            ·intro w hSw;(try dsimp only at hSw);go_simp;try with_reducible rfl
            go_simp
            refine wpAnyH_take (i:=48) (v:=?_) rfl (by kernel_rfl) (by kernel_rfl) (by kernel_rfl) (fun _ _ _ h=>h) (Or.inl ⟨by rfl,?_⟩) (by assumption) ?_
            rotate_left
            ·intro w hSw;(try dsimp only at hSw);go_simp;try with_reducible rfl
            go_simp
            refine wpAnyH_take (i:=49) (v:=?_) rfl (by kernel_rfl) (by kernel_rfl) (by kernel_rfl) (fun _ _ _ h=>h) (Or.inl ⟨by rfl,?_⟩) (by assumption) ?_
            rotate_left
            ·intro w hSw;(try dsimp only at hSw);go_simp;try with_reducible rfl
            go_simp
            refine wpAnyH_take (i:=50) (v:=?_) rfl (by kernel_rfl) (by kernel_rfl) (by kernel_rfl) (fun _ _ _ h=>h) (Or.inl ⟨by rfl,?_⟩) (by assumption) ?_
            rotate_left
            ·intro w hSw;(try dsimp only at hSw);go_simp;try with_reducible rfl
            go_simp
            as_aux_lemma =>
             refine wpAnyH_take (i:=51) (v:=?_) rfl (by kernel_rfl) (by kernel_rfl) (by kernel_rfl) (fun _ _ _ h=>h) (Or.inl ⟨by rfl,?_⟩) (by assumption) ?_
             rotate_left
             ·intro w hSw;(try dsimp only at hSw);go_simp;try with_reducible rfl
             go_simp
             refine wpAnyH_take (i:=52) (v:=?_) rfl (by kernel_rfl) (by kernel_rfl) (by kernel_rfl) (fun _ _ _ h=>h) (Or.inl ⟨by rfl,?_⟩) (by assumption) ?_
             rotate_left
             ·intro w hSw;(try dsimp only at hSw);go_simp;try with_reducible rfl
             go_simp
             refine wpAnyH_take (i:=53) (v:=?_) rfl (by kernel_rfl) (by kernel_rfl) (by kernel_rfl) (fun _ _ _ h=>h) (Or.inl ⟨by rfl,?_⟩) (by assumption) ?_
             rotate_left
             ·intro w hSw;(try dsimp only at hSw);go_simp;try with_reducible rfl
             go_simp
             refine wpAnyH_take (i:=54) (v:=?_) rfl (by kernel_rfl) (by kernel_rfl) (by kernel_rfl) (fun _ _ _ h=>h) (Or.inl ⟨by rfl,?_⟩) (by assumption) ?_
             rotate_left
             ·intro w hSw;(try dsimp only at hSw);go_simp;try with_reducible rfl
             go_simp
             refine wpAnyH_take (i:=55) (v:=?_) rfl (by kernel_rfl) (by kernel_rfl) (by kernel_rfl) (fun _ _ _ h=>h) (Or.inl ⟨by rfl,?_⟩) (by assumption) ?_
             rotate_left
             ·intro w hSw;(try dsimp only at hSw);go_simp;try with_reducible rfl
             go_simp
             refine wpAnyH_take (i:=56) (v:=?_) rfl (by kernel_rfl) (by kernel_rfl) (by kernel_rfl) (fun _ _ _ h=>h) (Or.inl ⟨by rfl,?_⟩) (by assumption) ?_
             rotate_left
             ·intro w hSw;(try dsimp only at hSw);go_simp;try with_reducible rfl
             go_simp
             refine wpAnyH_take (i:=57) (v:=?_) rfl (by kernel_rfl) (by kernel_rfl) (by kernel_rfl) (fun _ _ _ h=>h) (Or.inl ⟨by rfl,?_⟩) (by assumption) ?_
             rotate_left
             ·intro w hSw;(try dsimp only at hSw);go_simp;try with_reducible rfl
             go_simp
             refine wpAnyH_take (i:=58) (v:=?_) rfl (by kernel_rfl) (by kernel_rfl) (by kernel_rfl) (fun _ _ _ h=>h) (Or.inl ⟨by rfl,?_⟩) (by assumption) ?_
             rotate_left
             ·intro w hSw;(try dsimp only at hSw);go_simp;try with_reducible rfl
             go_simp
             as_aux_lemma =>
              refine wpAnyH_take (i:=59) (v:=?_) rfl (by kernel_rfl) (by kernel_rfl) (by kernel_rfl) (fun _ _ _ h=>h) (Or.inl ⟨by rfl,?_⟩) (by assumption) ?_
              rotate_left
              ·intro w hSw;(try dsimp only at hSw);go_simp;try with_reducible rfl
              go_simp
              refine wpAnyH_take (i:=60) (v:=?_) rfl (by kernel_rfl) (by kernel_rfl) (by kernel_rfl) (fun _ _ _ h=>h) (Or.inl ⟨by rfl,?_⟩) (by assumption) ?_
              rotate_left
              ·intro w hSw;(try dsimp only at hSw);go_simp;try with_reducible rfl
              go_simp
              refine wpAnyH_take (i:=61) (v:=?_) rfl (by kernel_rfl) (by kernel_rfl) (by kernel_rfl) (fun _ _ _ h=>h) (Or.inl ⟨by rfl,?_⟩) (by assumption) ?_
              rotate_left
              ·intro w hSw;(try dsimp only at hSw);go_simp;try with_reducible rfl
              go_simp
              refine wpAnyH_take (i:=62) (v:=?_) rfl (by kernel_rfl) (by kernel_rfl) (by kernel_rfl) (fun _ _ _ h=>h) (Or.inl ⟨by rfl,?_⟩) (by assumption) ?_
              rotate_left
              ·intro w hSw;(try dsimp only at hSw);go_simp;try with_reducible rfl
              go_simp
              refine wpAnyH_take (i:=63) (v:=?_) rfl (by kernel_rfl) (by kernel_rfl) (by kernel_rfl) (fun _ _ _ h=>h) (Or.inl ⟨by rfl,?_⟩) (by assumption) ?_
              rotate_left
              ·intro w hSw;(try dsimp only at hSw);go_simp;try with_reducible rfl
              go_simp
              refine wpAnyH_take (i:=64) (v:=?_) rfl (by kernel_rfl) (by kernel_rfl) (by kernel_rfl) (fun _ _ _ h=>h) (Or.inl ⟨by rfl,?_⟩) (by assumption) ?_
              rotate_left
              ·intro w hSw;(try dsimp only at hSw);go_simp;try with_reducible rfl
              go_simp
              refine wpAnyH_take (i:=65) (v:=?_) rfl (by kernel_rfl) (by kernel_rfl) (by kernel_rfl) (fun _ _ _ h=>h) (Or.inl ⟨by rfl,?_⟩) (by assumption) ?_
              rotate_left
              ·intro w hSw;(try dsimp only at hSw);go_simp;try with_reducible rfl
              go_simp
              refine wpAnyH_take (i:=66) (v:=?_) rfl (by kernel_rfl) (by kernel_rfl) (by kernel_rfl) (fun _ _ _ h=>h) (Or.inl ⟨by rfl,?_⟩) (by assumption) ?_
              rotate_left
              ·intro w hSw;(try dsimp only at hSw);go_simp;try with_reducible rfl
              go_simp
              as_aux_lemma =>
               refine wpAnyH_take (i:=67) (v:=?_) rfl (by kernel_rfl) (by kernel_rfl) (by kernel_rfl) (fun _ _ _ h=>h) (Or.inl ⟨by rfl,?_⟩) (by assumption) ?_
               rotate_left
               ·intro w hSw;(try dsimp only at hSw);go_simp;try with_reducible rfl
               go_simp
               refine wpAnyH_take (i:=68) (v:=?_) rfl (by kernel_rfl) (by kernel_rfl) (by kernel_rfl) (fun _ _ _ h=>h) (Or.inl ⟨by rfl,?_⟩) (by assumption) ?_
               rotate_left
               ·intro w hSw;(try dsimp only at hSw);go_simp;try with_reducible rfl
               go_simp
               refine wpAnyH_take (i:=69) (v:=?_) rfl (by kernel_rfl) (by kernel_rfl) (by kernel_rfl) (fun _ _ _ h=>h) (Or.inl ⟨by rfl,?_⟩) (by assumption) ?_
               rotate_left
               ·intro w hSw;(try dsimp only at hSw);go_simp;try with_reducible rfl
               go_simp
               refine wpAnyH_take (i:=70) (v:=?_) rfl (by kernel_rfl) (by kernel_rfl) (by kernel_rfl) (fun _ _ _ h=>h) (Or.inl ⟨by rfl,?_⟩) (by assumption) ?_
               rotate_left
               ·intro w hSw;(try dsimp only at hSw);go_simp;try with_reducible rfl
               go_simp
               refine wpAnyH_take (i:=71) (v:=?_) rfl (by kernel_rfl) (by kernel_rfl) (by kernel_rfl) (fun _ _ _ h=>h) (Or.inl ⟨by rfl,?_⟩) (by assumption) ?_
               rotate_left
               ·intro w hSw;(try dsimp only at hSw);go_simp;try with_reducible rfl
               go_simp
               refine wpAnyH_take (i:=72) (v:=?_) rfl (by kernel_rfl) (by kernel_rfl) (by kernel_rfl) (fun _ _ _ h=>h) (Or.inl ⟨by rfl,?_⟩) (by assumption) ?_
               rotate_left
               ·intro w hSw;(try dsimp only at hSw);go_simp;try with_reducible rfl
               go_simp
               refine wpAnyH_take (i:=73) (v:=?_) rfl (by kernel_rfl) (by kernel_rfl) (by kernel_rfl) (fun _ _ _ h=>h) (Or.inl ⟨by rfl,?_⟩) (by assumption) ?_
               rotate_left
               ·intro w hSw;(try dsimp only at hSw);go_simp;try with_reducible rfl
               go_simp
               refine wpAnyH_take (i:=74) (v:=?_) rfl (by kernel_rfl) (by kernel_rfl) (by kernel_rfl) (fun _ _ _ h=>h) (Or.inl ⟨by rfl,?_⟩) (by assumption) ?_
               rotate_left
               ·intro w hSw;(try dsimp only at hSw);go_simp;try with_reducible rfl
               go_simp
               as_aux_lemma =>
                refine wpAnyH_take (i:=76) (v:=?_) rfl (by kernel_rfl) (by kernel_rfl) (by kernel_rfl) (fun _ _ _ h=>h) (Or.inl ⟨by rfl,?_⟩) (by assumption) ?_
                rotate_left
                ·intro w hSw;(try dsimp only at hSw);go_simp;try with_reducible rfl
                go_simp
                refine wpAnyH_take (i:=77) (v:=?_) rfl (by kernel_rfl) (by kernel_rfl) (by kernel_rfl) (fun _ _ _ h=>h) (Or.inl ⟨by rfl,?_⟩) (by assumption) ?_
                rotate_left
                ·intro w hSw;(try dsimp only at hSw);go_simp;try with_reducible rfl
                go_simp
                refine wpAnyH_take (i:=78) (v:=?_) rfl (by kernel_rfl) (by kernel_rfl) (by kernel_rfl) (fun _ _ _ h=>h) (Or.inl ⟨by rfl,?_⟩) (by assumption) ?_
                rotate_left
                ·intro w hSw;(try dsimp only at hSw);go_simp;try with_reducible rfl
                go_simp
                refine wpAnyH_take (i:=79) (v:=?_) rfl (by kernel_rfl) (by kernel_rfl) (by kernel_rfl) (fun _ _ _ h=>h) (Or.inl ⟨by rfl,?_⟩) (by assumption) ?_
                rotate_left
                ·intro w hSw;(try dsimp only at hSw);go_simp;try with_reducible rfl
                go_simp
                refine wpAnyH_take (i:=80) (v:=?_) rfl (by kernel_rfl) (by kernel_rfl) (by kernel_rfl) (fun _ _ _ h=>h) (Or.inl ⟨by rfl,?_⟩) (by assumption) ?_
                rotate_left
                ·intro w hSw;(try dsimp only at hSw);go_simp;try with_reducible rfl
                go_simp
                refine wpAnyH_take (i:=81) (v:=?_) rfl (by kernel_rfl) (by kernel_rfl) (by kernel_rfl) (fun _ _ _ h=>h) (Or.inl ⟨by rfl,?_⟩) (by assumption) ?_
                rotate_left
                ·intro w hSw;(try dsimp only at hSw);go_simp;try with_reducible rfl
                go_simp
                as_aux_lemma =>
                 refine wpAnyH_ready (rs:=[75]) (by kernel_rfl) (by simp) ?_
                 refine AllReadyH.cons rfl (fun K hK=>?_) AllReadyH.nil
                 go_simp
                 refine (HC6.out _ HB6.out).mono ?_
                 rintro e w7 ⟨rfl,hb7⟩
                 have HB7:Hid (Below wd.heap.size wd w7):=HB6.out.trans (hb7.mono HB6.out.size)
                 clear hb7
                 refine hK.out _ _ ?_ (fun hHeld=>?_)
                 ·exact HS.out _ HB7.out
                 clear hK K
                 go_simp
                 as_aux_lemma =>
                  refine wpAnyH_ready (rs:=[82]) (by kernel_rfl) (by simp) ?_
                  refine AllReadyH.cons rfl (fun K hK=>?_) AllReadyH.nil
                  go_simp
                  refine (HC7.out _ HB7.out).mono ?_
                  rintro e w8 ⟨rfl,hb8⟩
                  have HB8:Hid (Below wd.heap.size wd w8):=HB7.out.trans (hb8.mono HB7.out.size)
                  clear hb8
                  refine hK.out _ _ ?_ (fun hHeld=>?_)
                  ·exact HS.out _ HB8.out
                  clear hK K
                  go_simp
                  refine wpAnyH_take (i:=83) (v:=?_) rfl (by kernel_rfl) (by kernel_rfl) (by kernel_rfl) (fun _ _ _ h=>h) (Or.inl ⟨by rfl,?_⟩) (by assumption) ?_
                  rotate_left
                  ·intro w hSw;(try dsimp only at hSw);go_simp;try with_reducible rfl
                  go_simp
                  refine wpAnyH_take (i:=84) (v:=?_) rfl (by kernel_rfl) (by kernel_rfl) (by kernel_rfl) (fun _ _ _ h=>h) (Or.inl ⟨by rfl,?_⟩) (by assumption) ?_
                  rotate_left
                  ·intro w hSw;(try dsimp only at hSw);go_simp;try with_reducible rfl
                  go_simp
                  refine wpAnyH_done (by kernel_rfl) ?_ _
                  have HJ:Hid (RJ w w8 p q (j+1)):=⟨n,F,s,G,r,HI2.out.below HB8.out,HM.out⟩
                  go_wp2_with fail
                  go_roundw
                  case rel=>exact ⟨j+1,HJN.out.2,by go_num,HJ⟩
                  case measure=>have:=HJN.out.2;simp [intOf];omega
end Go.Proofs.Ytoahkffdoaphlaa.Re
