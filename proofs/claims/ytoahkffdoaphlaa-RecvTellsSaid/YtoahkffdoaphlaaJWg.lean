/- Joined texts. Conditions: as each theorem lists them. -/
import Derived.Test.YtoahkffdoaphlaaJWf
import Derived.Test.YtoahkffdoaphlaaJF6
import Derived.Laws.Cover1
set_option linter.unusedSimpArgs false
set_option linter.unusedVariables false
set_option maxRecDepth 100000
set_option maxHeartbeats 80000000
namespace Go.Proofs.Ytoahkffdoaphlaa.Se
open Go Go.RowKit Go.Proofs.Ytoahkffdoaphlaa Go.Proofs.Ytoahkffdoaphlaa.Sp
/-- A Stream frame. -/
def sfr (id off note:Int) (fin:Bool) (data:List Nat):Fr:=⟨3,id,off,0,0,note,fin,data,[]⟩
theorem sfr_ok {id off note:Int} {fin:Bool} {data:List Nat} (hid:0≤id∧id≤4611686018427387903) (hoff:0≤off) (hn:data.length≤120) (hlt:∀ c ∈ data,c<256) (hro:off+data.length≤4611686018427387903):OkF (sfr id off note fin data) :=
 ⟨⟨by show (1:Int)≤3;decide,by show (3:Int)≤12;decide⟩,⟨wid_in hid.1 hid.2,wid_in (n:=off) hoff (by omega),wid0,wid0⟩,hoff,⟨hn,hlt⟩,hro,(fun h=>absurd h (by show ¬ (3:Int)=9;decide)),.inl rfl,.inr (.inr (.inr (.inr (.inr (.inr rfl))))),.inl rfl,.inr rfl,.inl rfl,.inl rfl,.inr ⟨by show ¬ (3:Int)=2;decide,rfl⟩⟩
theorem sfr_nums (id off note:Int) (fin:Bool) (data:List Nat):nums (sfr id off note fin data)=[3,id,off,bitI fin,(data.length:Int)]:=by
 have b0:nbit 3 0=true:=by decide
 have b1:nbit 3 1=false:=by decide
 have b2:nbit 3 2=true:=by decide
 have b3:nbit 3 3=false:=by decide
 have b4:nbit 3 4=true:=by decide
 have b5:nbit 3 5=true:=by decide
 have b6:nbit 3 6=false:=by decide
 have e:nums (sfr id off note fin data)=(3 :: selN (nbit 3) (numV (sfr id off note fin data)) 7) ++ []:=by unfold nums;simp only [sfr];rfl
 rw [e,List.append_nil,selN_no b6,selN_yes b5,selN_yes b4,selN_no b3,selN_yes b2,selN_no b1,selN_yes b0]
 rfl
theorem wid_bit (fin:Bool):wid (bitI fin)=1:=by cases fin <;> decide
theorem sfr_len (id off note:Int) (fin:Bool) (data:List Nat):((encF (sfr id off note fin data)).length:Int)=2+(wid id:Int)+(wid off:Int)+(wid (data.length:Int):Int)+(data.length:Int):=by
 unfold encF
 rw [List.length_append,sfr_nums,encsB_len]
 simp only [sumW,List.map_cons,List.map_nil,List.sum_cons,List.sum_nil,wid_bit,show wid 3=1 from by decide]
 show ((_+data.length:Nat):Int)=_
 omega
def CutP (rs:Bool) (a b en:Int):Prop:=(rs=true→a=en)∧(rs=false→b=en)
section
variable {w w':World} {p:Nat} {F:List Nat} {v3 v4 v5:Value} {s:St}
theorem fit_st (hid:0≤s.id∧s.id≤4611686018427387903) (off n room:Int) (ho:0≤off∧off≤1000000) (hn:0≤n∧n≤1000000) (hr:room≤9223372036854775807) (w:World) :
  Calls Try.prog 67 #[.agg #[.int .i64 3,.int .i64 s.id,.int .i64 off,.int .i64 0,.int .i64 0,.int .i64 0,.bool false,.slice none 0 0,.slice none 0 0],.int .i64 n,.int .i64 room] w fun e w'=>(e=if room<bareS s off then .returned (.tuple #[.int .i64 0,.bool false]) else .returned (.tuple #[.int .i64 (fitS n room (bareS s off)),.bool true]))∧Below w.heap.size w w':=by
 have hok:OkF (sfr s.id off 0 false []):=sfr_ok hid ho.1 (by simp) (fun c hc=>by cases hc) (by simp;omega)
 have HSZ:Hid (∀ W,Calls Try.prog 101 #[.agg #[.int .i64 3,.int .i64 s.id,.int .i64 off,.int .i64 0,.int .i64 0,.int .i64 0,.bool false,.slice none 0 0,.slice none 0 0]] W fun e w'=>e=.returned (.int .i64 (bareS s off))∧Below W.heap.size W w'):=fun W=>by
  have:=size_ok_f (sfr s.id off 0 false []) none 0 0 none 0 0 W ⟨rfl,Nat.le_refl _,Rd.nil _ _ _,rfl,Nat.le_refl _,Rd.nil _ _ _⟩ hok
  rw [sfr_len] at this
  have e:(2:Int)+(wid s.id:Int)+(wid off:Int)+(wid ((([]:List Nat).length:Nat):Int):Int)+((([]:List Nat).length:Nat):Int)=bareS s off:=by
   show (2:Int)+_+_+(1:Int)+(0:Int)=_
   unfold bareS;omega
  rw [e] at this
  exact this
 have hb:5≤bareS s off∧bareS s off≤19:=by
  have h1:=wid_le s.id;have h2:=wid_le off
  have h3:=wid_in hid.1 hid.2;have h4:=wid_in ho.1 (show off≤4611686018427387903 by omega)
  unfold bareS;omega
 have HFT:Hid (∀ bare,fitS n room bare=min (min (min n 120) (room - bare)) (room - bare - (wid (min (min n 120) (room - bare)):Int)+1)):=fun _=>rfl
 obtain ⟨bare,hba⟩:∃ x,bareS s off=x:=⟨_,rfl⟩
 rw [hba] at HSZ hb ⊢
 obtain ⟨hb1,hb2⟩:=hb
 obtain ⟨hn1,hn2⟩:=hn
 obtain ⟨sid,hs⟩:∃ x,s.id=x:=⟨_,rfl⟩
 rw [hs] at HSZ ⊢
 clear hok hba hid hs ho
 by_cases hlt:room<bare
 ·rw [if_pos hlt]
  go_enter Try.func67,Try.ntmps67
  go_wp2_with fail
  refine (HSZ.out _).mono ?_
  rintro e w1 ⟨rfl,hb⟩
  have HB:Hid (Below w.heap.size w w1):=((Below.refl _ _).alloc (Nat.le_refl _) _).trans (hb.mono (by simp))
  clear hb
  go_wp2_with fail
  go_ret2
  exact ⟨rfl,HB.out⟩
 ·rw [if_neg hlt]
  obtain ⟨m,hm⟩:∃ m,min (min n 120) (room - bare)=m:=⟨_,rfl⟩
  have HFT2:Hid (fitS n room bare=min m (room - bare - (wid m:Int)+1)):=by have:=HFT.out bare;rw [hm] at this;exact this
  have hm0:0≤m∧m≤120∧m≤room - bare:=by omega
  have hw1:wid m≠0:=wid_in hm0.1 (by omega)
  have hw8:=wid_le m
  have HS1:Hid (∀ (W:World) (b:Nat),W.cell? ⟨b,0,none⟩=some (.int .i64 m)→Calls Try.prog 102 #[.slice (some ⟨b,0,none⟩) 1 1] W fun e w'=>e=.returned (.int .i64 (wid m))∧W=w'):=fun W b hc=>size_one m b W hc hw1
  have HS0:Hid (∀ (W:World) (b:Nat),W.cell? ⟨b,0,none⟩=some (.int .i64 0)→Calls Try.prog 102 #[.slice (some ⟨b,0,none⟩) 1 1] W fun e w'=>e=.returned (.int .i64 1)∧W=w'):=fun W b hc=>size_one 0 b W hc wid0
  obtain ⟨k,hk⟩:∃ k:Int,((wid m:Nat):Int)=k:=⟨_,rfl⟩
  have hk0:1≤k∧k≤8:=by omega
  rw [hk] at HS1 HFT2
  obtain ⟨hm1,hm2,hm3⟩:=hm0
  obtain ⟨hk1,hk2⟩:=hk0
  have hmin3:∀ (ts:Array TypeId) (t:TypeId) (W:World),(Builtin.min_ ts t #[.int .i64 n,.int .i64 120,.int .i64 (room - bare)]).run Try.prog W=.ok (.int .i64 m) W:=fun ts t W=>by
   rw [run_min_int3]
   congr 2
   rw [← hm]
   omega
  clear hm HFT hw1 hw8 hk
  go_enter Try.func67,Try.ntmps67
  go_wp2_with fail
  refine (HSZ.out _).mono ?_
  rintro e w1 ⟨rfl,hb⟩
  have HB:Hid (Below w.heap.size w w1):=((Below.refl _ _).alloc (Nat.le_refl _) _).trans (hb.mono (by simp))
  clear hb
  go_wp2_with fail
  have HB2:Hid (Below w.heap.size w (w1.alloc (.cells #[.int .i64 m] 3))):=HB.out.alloc HB.out.size _
  refine (HS1.out _ _ (cell_at w1 _ _ _ rfl)).mono ?_
  rintro e w2 ⟨rfl,hw2⟩
  obtain ⟨W2,hW2⟩:∃ x,Hid (w1.alloc (.cells #[.int .i64 m] 3)=x):=⟨_,rfl⟩
  rw [hW2.out] at HB2
  obtain rfl:W2=w2:=by rw [← hW2.out];exact hw2
  clear hw2
  go_wp2_with fail
  have HB3:Hid (Below w.heap.size w (W2.alloc (.cells #[.int .i64 0] 3))):=HB2.out.alloc HB2.out.size _
  refine (HS0.out _ _ (cell_at W2 _ _ _ rfl)).mono ?_
  rintro e w3 ⟨rfl,hw3⟩
  obtain ⟨W3,hW3⟩:∃ x,Hid (W2.alloc (.cells #[.int .i64 0] 3)=x):=⟨_,rfl⟩
  rw [hW3.out] at HB3
  obtain rfl:W3=w3:=by rw [← hW3.out];exact hw3
  clear hw3
  go_wp2_with fail
  go_ret2
  exact ⟨by rw [HFT2.out];rfl,HB3.out⟩
theorem due_st (h:StIn w p F v3 v4 v5 s) (hok:StOk s) (most:Int) :
  Calls Try.prog 66 #[.pointer (some ⟨p,0,none⟩),.int .i64 most] w fun e w'=>e=.returned (.tuple #[.int .i64 (dueS s most).1,.int .i64 (dueS s most).2])∧Below w.heap.size w w':=by
 obtain ⟨hu0,hu1,hu2⟩:=hok.u
 have hlen:=edges_len hok
 have hn:=hok.n
 have hend:=endS_in hok
 have HH:=Lib.hid h
 have HS:=Lib.hid (size_st h)
 have HOK:=Lib.hid hok
 obtain ⟨_,_,_,_,_,_,hc8,_,hc10,_⟩:=h.cells
 have HD:Hid (dueS s most=if hitS s=true then (s.lost.getD 0 0,min (s.lost.getD 1 0) (endS s)) else (s.u,s.u+max 0 (min (min most (leftS s)) (endS s - s.u)))):=rfl
 have HSP:=Lib.hid (lost_spans h (by omega))
 obtain ⟨en,hen⟩:∃ x,endS s=x:=⟨_,rfl⟩
 rw [hen] at HD hend
 have HEN:=Lib.hid hen
 clear h hen hok
 obtain ⟨rs,hrs⟩:∃ x,s.rs=x:=⟨_,rfl⟩
 have hcut:CutP rs s.sure (s.bs.length:Int) en:=by
  have:=HEN.out
  unfold endS at this
  rw [hrs] at this
  exact ⟨fun e=>by rw [if_pos e] at this;exact this,fun e=>by rw [if_neg (by rw [e];decide)] at this;exact this⟩
 rw [hrs] at hc8
 go_enter Try.func66,Try.ntmps66
 go_wp2_with fail
 refine HS.out.mono ?_;rintro e w' ⟨rfl,hw'⟩;subst hw'
 go_upto_if 14 with (fail)
 go_cut [6] (fun v wx=>v=.int .i64 en∧wx=w')
 case first =>
  cases rs
  ·go_wp2_with fail
   go_meet
   case rel=>exact ⟨by rw [hcut.2 rfl],rfl⟩
  ·rw [hcut.1 rfl] at hc10
   go_wp2_with fail
   go_meet
   case rel=>exact ⟨rfl,rfl⟩
 case rest =>
  obtain ⟨rfl,rfl⟩:=hcut
  go_wp2_with fail
  refine HSP.out.mono ?_
  rintro e w2 ⟨v2,rfl,ho2,hb2⟩
  have HM:=Lib.hid (HH.out.below hb2)
  have HB:=Lib.hid hb2
  obtain ⟨m,hm⟩:∃ m,Hid (s.lost.length / 2=m):=⟨_,rfl⟩
  rw [hm.out] at ho2
  obtain ⟨A2,c2,e2,hc2,_,_,hrd2⟩:=own_form ho2
  subst e2
  have HR:Hid (Rd w2 w2.heap.size A2 (m * 2) (ints s.lost)):=hrd2
  have hml:Hid (s.lost.length=2 * m):=by have:=HOK.out.lost.2.1;have:=hm.out;show _=_;omega
  have hmb:(m:Int)≤4000:=by have:=hml.out;have:=hlen.1;omega
  have hmc:(m:Int)≤(c2:Int):=by omega
  obtain ⟨x,hx⟩:∃ x,Hid (s.lost.getD 0 0=x):=⟨_,rfl⟩
  obtain ⟨y,hy⟩:∃ x,Hid (s.lost.getD 1 0=x):=⟨_,rfl⟩
  have HHIT:Hid (hitS s=(decide (0<m) && decide (x<en))):=by
   show _=_
   unfold hitS
   rw [HEN.out,hx.out,hml.out]
   congr 1
   rw [decide_eq_decide];omega
  rw [hx.out,hy.out] at HD
  clear ho2 hrd2 hc2 hb2 hc8 hc10 hlen HSP HH HS
  by_cases h0:0<m
  case neg =>
   obtain rfl:m=0:=by omega
   rw [if_neg (by rw [HHIT.out];simp)] at HD
   clear h0
   go_wp2_with fail
   refine (sent_st HM.out hu2).mono ?_
   rintro e w3 ⟨rfl,q3,hw3⟩
   have HM3:Hid (StIn w3 p F v3 v4 v5 s):=by rw [hw3];exact HM.out.drewN q3
   have HB3:Hid (∀ q,Below wc.heap.size wc (w3.drewN q)):=fun q=>by rw [hw3];exact (HB.out.trans ⟨rfl,rfl,rfl,Nat.le_refl _,fun _ _=>rfl⟩).trans ⟨rfl,rfl,rfl,Nat.le_refl _,fun _ _=>rfl⟩
   clear hw3
   obtain ⟨z,hz⟩:∃ z,min (min most (leftS s)) (en - s.u)=z:=⟨_,rfl⟩
   rw [hz] at HD
   have hzb:z≤en - s.u:=by omega
   obtain ⟨lf,hlf⟩:∃ z,leftS s=z:=⟨_,rfl⟩
   have HLF:=Lib.hid (Cr.left_any HM3.out.cred ⟨by omega,by have:=HOK.out.l;omega⟩ ⟨hu0,by omega⟩)
   rw [show Cr.leftF s.l s.u=lf from hlf] at HLF
   rw [hlf] at hz
   have hmin3:∀ (ts:Array TypeId) (t:TypeId) (W:World),(Builtin.min_ ts t #[.int .i64 most,.int .i64 lf,.int .i64 (en - s.u)]).run Try.prog W=.ok (.int .i64 z) W:=fun ts t W=>by
    rw [run_min_int3]
    congr 2
    rw [← hz]
    omega
   clear hz hlf
   go_wp2_with fail
   refine HLF.out.mono ?_
   rintro e w4 ⟨rfl,q4,rfl⟩
   go_wp2_with fail
   go_ret2
   exact ⟨by rw [HD.out];rfl,HB3.out _⟩
  case pos =>
   have h0I:(0:Int)<(m:Int):=by omega
   obtain ⟨b,o,hA,hbn,hcs⟩:=HR.out.2 (by omega)
   subst hA
   have hcx:w2.cell? ⟨b,o,none⟩=some (.int .i64 x):=by
    have:=hcs 0 _ (ints_get s.lost 0 (by have:=hml.out;omega))
    rw [hx.out] at this;exact this
   have hcy:w2.cell? ⟨b,o+1,none⟩=some (.int .i64 y):=by
    have:=hcs 1 _ (ints_get s.lost 1 (by have:=hml.out;omega))
    rw [hy.out] at this;exact this
   clear hcs hbn HR
   by_cases hxe:x<en
   ·rw [if_pos (by rw [HHIT.out];simp;exact ⟨h0,hxe⟩)] at HD
    have HX:=Lib.hid hxe
    go_wp2_with fail
    have hmin:min y en=y∧y≤en∨min y en=en∧en<y:=by omega
    rcases hmin with ⟨he,hle⟩ | ⟨he,hle⟩
    all_goals
     rw [he] at HD
     clear he
     go_quiet (fail)
     go_wp2_with fail
     go_ret2
     exact ⟨by rw [HD.out];simp;try omega,HB.out.trans ⟨rfl,rfl,rfl,Nat.le_refl _,fun _ _=>rfl⟩⟩
   ·rw [if_neg (by rw [HHIT.out];simp;intro _;omega)] at HD
    go_wp2_with fail
    refine (sent_st HM.out hu2).mono ?_
    rintro e w3 ⟨rfl,q3,hw3⟩
    have HM3:Hid (StIn w3 p F v3 v4 v5 s):=by rw [hw3];exact HM.out.drewN q3
    have HB3:Hid (∀ q,Below wc.heap.size wc (w3.drewN q)):=fun q=>by rw [hw3];exact (HB.out.trans ⟨rfl,rfl,rfl,Nat.le_refl _,fun _ _=>rfl⟩).trans ⟨rfl,rfl,rfl,Nat.le_refl _,fun _ _=>rfl⟩
    clear hw3
    obtain ⟨z,hz⟩:∃ z,min (min most (leftS s)) (en - s.u)=z:=⟨_,rfl⟩
    rw [hz] at HD
    have hzb:z≤en - s.u:=by omega
    obtain ⟨lf,hlf⟩:∃ z,leftS s=z:=⟨_,rfl⟩
    have HLF:=Lib.hid (Cr.left_any HM3.out.cred ⟨by omega,by have:=HOK.out.l;omega⟩ ⟨hu0,by omega⟩)
    rw [show Cr.leftF s.l s.u=lf from hlf] at HLF
    rw [hlf] at hz
    have hmin3:∀ (ts:Array TypeId) (t:TypeId) (W:World),(Builtin.min_ ts t #[.int .i64 most,.int .i64 lf,.int .i64 (en - s.u)]).run Try.prog W=.ok (.int .i64 z) W:=fun ts t W=>by
     rw [run_min_int3]
     congr 2
     rw [← hz]
     omega
    clear hz hlf
    go_wp2_with fail
    refine HLF.out.mono ?_
    rintro e w4 ⟨rfl,q4,rfl⟩
    go_wp2_with fail
    go_ret2
    exact ⟨by rw [HD.out];rfl,HB3.out _⟩
end
end Go.Proofs.Ytoahkffdoaphlaa.Se
