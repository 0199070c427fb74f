/- Joined texts. Conditions: as each theorem lists them. -/
import Derived.Test.YtccljifichaieaaDoorJVf
import Derived.Test.YtccljifichaieaaDoorJVc
import Derived.Test.YtccljifichaieaaDoorJ4c
import Derived.BigGuard
import Derived.Outline
import Derived.Deep.DeepCutAuto
set_option linter.unusedSimpArgs false
set_option linter.unusedVariables false
set_option maxRecDepth 100000
set_option maxHeartbeats 8000000
namespace Go.Proofs.YtccljifichaieaaDoor.Rv
open Go Go.RowKit
theorem own_at' {w:World} {base e size n:Nat} {v:Value} {xs:List Value} (h:w.ownsRow base e size v n xs) (hn:0<n) (hs:0<size):∃ g c,v=.slice (some ⟨g,0,none⟩) n c∧base≤g:=by
 rcases h.2 with ⟨rfl,rfl⟩ | ⟨g,cap,cur,rfl,hb,_⟩
 ·have:=h.1
  simp at this
  rcases this with h | h <;> omega
 ·exact ⟨g,cap,rfl,hb⟩
theorem ptells_walk (key:Nat) (num_ far_ next_:Int) (A:Option Addr) (n c:Nat) (rs:List Rw) (Ar:Option Addr) (cr:Nat) (raw:List Nat) (at_:Int) (with_:Nat) (odd:Bool) (w:World) (hnum:-9223372036854775808≤num_∧num_≤9223372036854775807) (hat:-9223372036854775808≤at_∧at_≤9223372036854775807) (hkey:key<2 ^ 64) (hwith:with_<256) (hT:Tabs w) (HKN:Hid (∀ W,Below w.heap.size w W→Calls Tryd.prog 17 #[] W fun e w'=>e=.returned (.bool true)∧Below W.heap.size W w')) (hr:IsRaws w A c n rs) (hraw:IsBytes w Ar cr raw) :
  Calls Tryd.prog 3 #[.int .u64 (key:Int),.int .i64 num_,.int .i64 far_,.int .i64 next_,.slice A n c,.slice Ar raw.length cr,.int .i64 at_,.int .u8 (with_:Int),.bool odd] w fun e w'=>e=.returned (.bool true)∧Below w.heap.size w w':=by
 have HM:=Lib.hid (fun W=>hmay_any num_ W hnum.1 hnum.2)
 have Mn:=mayF_in num_
 obtain ⟨N,hN⟩:∃ x,mayF num_=x:=⟨_,rfl⟩
 rw [hN] at HM Mn
 obtain ⟨N0,N1⟩:=Mn
 have P1:=Lib.hid (fun W=>pick_any far_ 131072 W (by decide) (by decide))
 have P2:=Lib.hid (fun W=>pick_any far_ 1000 W (by decide) (by decide))
 have P3:=Lib.hid (fun W=>pick_any next_ 100 W (by decide) (by decide))
 have a0:=Int.emod_nonneg far_ (show (131072:Int)≠0 by decide)
 have a1:=Int.emod_lt_of_pos far_ (show (0:Int)<131072 by decide)
 have b0:=Int.emod_nonneg far_ (show (1000:Int)≠0 by decide)
 have b1:=Int.emod_lt_of_pos far_ (show (0:Int)<1000 by decide)
 have d0:=Int.emod_nonneg next_ (show (100:Int)≠0 by decide)
 have d1:=Int.emod_lt_of_pos next_ (show (0:Int)<100 by decide)
 obtain ⟨q1,hq1⟩:∃ x,far_ % 131072=x:=⟨_,rfl⟩
 obtain ⟨q2,hq2⟩:∃ x,far_ % 1000=x:=⟨_,rfl⟩
 obtain ⟨q3,hq3⟩:∃ x,next_ % 100=x:=⟨_,rfl⟩
 rw [hq1] at P1 a0 a1
 rw [hq2] at P2 b0 b1
 rw [hq3] at P3 d0 d1
 have HRW:=Lib.hid hr
 have HBY:=Lib.hid hraw
 have HKEY:=Lib.hid hkey
 have HWI:=Lib.hid hwith
 have HAT:=Lib.hid hat
 have HFS:=Lib.hid (hframes_any 4 (by decide) rs A n c w hr)
 have HTB:=Lib.hid hT
 clear hN hq1 hq2 hq3 hnum hat hkey hwith hr hraw hT
 go_enter Tryd.func3,Tryd.ntmps3
 go_wp2_with fail
 refine (HM.out _).mono ?_;rintro e w' ⟨rfl,rfl⟩
 go_wp2_with fail
 refine (P1.out _).mono ?_;rintro e w' ⟨rfl,rfl⟩
 go_upto_if 49 with (fail)
 go_cut [20] (fun v wx=>∃ ack:Int,v=.int .i64 ack∧-2≤ack∧ack≤4611686018427387903∧w=wx)
 case first =>
  cases odd
  ·go_wp2_with fail
   all_goals
    go_meet
    case rel=>exact ⟨_,rfl,by (try split) <;> omega,by (try split) <;> omega,rfl⟩
  ·go_wp2_with fail
   all_goals
    refine (P2.out _).mono ?_;rintro e w' ⟨rfl,rfl⟩
    go_wp2_with fail
    go_meet
    case rel=>exact ⟨_,rfl,by omega,by omega,rfl⟩
 case rest =>
 obtain ⟨ack,rfl,k0,k1,rfl⟩:=hcut
 go_wp2_with fail
 refine HFS.out.mono ?_
 rintro e w1 ⟨A1,n1,c1,fs,rfl,hfl,hn4,hbx,hown,hb1⟩
 have HF1:=Lib.hid (hown.frs hfl)
 have HB1:=Lib.hid hb1
 have HBX:=Lib.hid hbx
 have HEV:=Lib.hid (frs_even HF1.out)
 clear hown hb1 hbx
 have HL1:=Lib.hid (hpk_any key N ack fs A1 n1 c1 w1 (HTB.out.below HB1.out HTB.out.lt) HF1.out HBX.out (by omega) HKEY.out)
 go_wp2_with fail
 refine HL1.out.mono ?_
 rintro e w2 hq
 obtain ⟨A2,c2,rfl,ho2,hb2⟩:=pkq_form hq
 have HB2:Hid (Below w.heap.size w w2):=HB1.out.trans (hb2.mono HB1.out.size)
 have HL2:=Lib.hid (rpk_any key N ack fs A1 n1 c1 w2 (HF1.out.below hb2) HBX.out (by omega) HKEY.out)
 have HO2:=Lib.hid ho2
 have HPL:=Lib.hid (pkB_lt key N ack fs HBX.out HEV.out)
 have HPN:=Lib.hid (pkB_len key N ack fs)
 clear hq ho2 hb2 HL1
 obtain ⟨pb,hpb⟩:∃ x,Hid (pkB key N ack fs=x):=⟨_,rfl⟩
 obtain ⟨E,hE⟩:∃ x,Hid (lpE N ack fs=x):=⟨_,rfl⟩
 rw [hpb.out] at HO2 HPL HPN ⊢
 rw [hE.out]
 go_wp2_with fail
 refine HL2.out.mono ?_
 rintro e w3 hq
 obtain ⟨A3,c3,rfl,ho3,hb3⟩:=pkq_form hq
 rw [hpb.out] at ho3 ⊢
 rw [hE.out]
 have HB3:Hid (Below w.heap.size w w3):=HB2.out.trans (hb3.mono HB2.out.size)
 have HO23:Hid (w3.ownsRow w1.heap.size 5 1 (.slice A2 pb.length c2) pb.length (bv pb)):=own_below HO2.out hb3
 have HO3:=Lib.hid ho3
 clear hq ho3 hb3
 obtain ⟨LP,hLP⟩:∃ L,Hid (pb.length=L):=⟨_,rfl⟩
 have hLPn:LP≤240:=by rw [← hLP.out];exact HPN.out
 rw [hLP.out] at HO23 HO3 ⊢
 have cv2:(convert 24 9 (.slice A2 LP c2)).run Tryd.prog w3=.ok (.string (strOf pb)) w3:=by
  obtain ⟨_,_,ev,_,_,_,hrd⟩:=own_form HO23.out
  simp only [Value.slice.injEq] at ev
  obtain ⟨rfl,_,rfl⟩:=ev
  rw [Nat.mul_one] at hrd
  exact conv_run w3 _ _ 5 Tryd.underlying24 Tryd.underlying5 Tryd.underlying9 _ _ _ _ _ hrd
 have cv3:(convert 24 9 (.slice A3 LP c3)).run Tryd.prog w3=.ok (.string (strOf pb)) w3:=by
  obtain ⟨_,_,ev,_,_,_,hrd⟩:=own_form HO3.out
  simp only [Value.slice.injEq] at ev
  obtain ⟨rfl,_,rfl⟩:=ev
  rw [Nat.mul_one] at hrd
  exact conv_run w3 _ _ 5 Tryd.underlying24 Tryd.underlying5 Tryd.underlying9 _ _ _ _ _ hrd
 have HR1:=Lib.hid (fun a (h1:-9223372036854775808≤a) W=>room_any N a W h1 (by omega))
 have HR2:=Lib.hid (fun a (h1:-9223372036854775808≤N - a) (h2:N - a≤9223372036854775807) W=>rroom_any N a W h1 h2)
 go_upto_region 8 with (fail)
 go_cut [95] (fun v wx=>v=.bool false∧w3=wx)
 case first =>
  go_wp2_with fail
  all_goals
   refine (HR1.out _ (by omega) _).mono ?_;rintro e w' ⟨rfl,rfl⟩
   go_wp2_with fail
   refine (HR2.out _ (by omega) (by omega) _).mono ?_;rintro e w' ⟨rfl,rfl⟩
   go_wp2_with fail
   go_meet
   case rel=>exact ⟨by simp,rfl⟩
 case rest =>
 obtain ⟨rfl,rfl⟩:=hcut
 clear cv2 cv3 HL2 HR1 HR2 HO2 P1 P2 HM HFS
 have HRI:=Lib.hid (hright_any 2 (by decide) rs A n c w3 ⟨HRW.out.len,HRW.out.cap,HRW.out.big,fun h=>by
  obtain ⟨b,off,e,hlt,hx⟩:=HRW.out.rd h
  refine ⟨b,off,e,Nat.lt_of_lt_of_le hlt HB3.out.size,fun k r hk=>⟨?_,fun j u hu=>?_⟩⟩
  ·obtain ⟨g1,_⟩:=hx k r hk
   exact ⟨g1.id,g1.off,g1.a,g1.b,(g1.bs.below HB3.out (Nat.le_refl _)).more HB3.out.size,g1.bc,g1.bm,g1.blt,(g1.l.below HB3.out (Nat.le_refl _)).more HB3.out.size,g1.lc,g1.lm,g1.llt⟩
  ·exact (HB3.out.cell (p:=⟨b,off+k * 9+j,none⟩) hlt).trans ((hx k r hk).2 j u hu)⟩)
 go_wp2_with fail
 refine HRI.out.mono ?_
 rintro e w4 ⟨A4,n4,c4,gs,rfl,hgl,hg2,hok,hgo,hb4⟩
 have HG4:=Lib.hid (hgo.frs hgl)
 have HB4:Hid (Below w.heap.size w w4):=HB3.out.trans (hb4.mono HB3.out.size)
 have HGX:Hid (∀ f ∈ gs,BoxF f):=fun f hf=>by
  have h1:=hok f hf
  obtain ⟨m,hm8,hsp⟩:=h1.sps
  exact ⟨by have:=h1.data.1;omega,by have:=hsp.1;omega,h1.data.2⟩
 have HGE:=Lib.hid (frs_even HG4.out)
 clear hok hgo hb4 hgl
 have HL4:=Lib.hid (rpk_any key N ack gs A4 n4 c4 w4 HG4.out HGX.out (by omega) HKEY.out)
 go_wp2_with fail
 refine HL4.out.mono ?_
 rintro e w5 hq
 obtain ⟨A5,c5,rfl,ho5,hb5⟩:=pkq_form hq
 have HB5:Hid (Below w.heap.size w w5):=HB4.out.trans (hb5.mono HB4.out.size)
 have HDL:=Lib.hid (pkB_lt key N ack gs HGX.out HGE.out)
 have HDN:=Lib.hid (pkB_len key N ack gs)
 obtain ⟨db,hdb⟩:∃ x,Hid (pkB key N ack gs=x):=⟨_,rfl⟩
 obtain ⟨E5,hE5⟩:∃ x,Hid (lpE N ack gs=x):=⟨_,rfl⟩
 rw [hdb.out] at ho5 HDL HDN ⊢
 rw [hE5.out]
 have HO5:=Lib.hid ho5
 clear hq ho5 hb5 HL4
 have HL6:=Lib.hid (rpk_any key N ack [] none 0 0 w5 ⟨rfl,Nat.le_refl _,[],Rd.nil _ _ _,rfl⟩ (fun f hf=>by cases hf) (by omega) HKEY.out)
 have HEL:=Lib.hid (pkB_lt key N ack [] (fun f hf=>by cases hf) (fun f hf=>by cases hf))
 have HEN:=Lib.hid (pkB_len key N ack [])
 go_wp2_with fail
 refine HL6.out.mono ?_
 rintro e w6 hq
 obtain ⟨A6,c6,rfl,ho6,hb6⟩:=pkq_form hq
 have HB6:Hid (Below w.heap.size w w6):=HB5.out.trans (hb6.mono HB5.out.size)
 have HO56:=Lib.hid (own_below HO5.out hb6)
 obtain ⟨eb,heb⟩:∃ x,Hid (pkB key N ack []=x):=⟨_,rfl⟩
 obtain ⟨E6,hE6⟩:∃ x,Hid (lpE N ack []=x):=⟨_,rfl⟩
 rw [heb.out] at ho6 HEL HEN ⊢
 rw [hE6.out]
 have HO6:=Lib.hid ho6
 clear hq ho6 hb6 HL6
 obtain ⟨y,hy,hy2⟩:∃ y:Nat,N % 256=(y:Int)∧y<256:=⟨(N % 256).toNat,by omega,by omega⟩
 obtain ⟨i0,hi,hz0,hz1,hz2⟩:=info_parts infoB
 have HI:=Lib.hid (And.intro hi (And.intro hz0 (And.intro hz1 hz2)))
 clear hi hz0 hz1 hz2
 have HF7:Hid (∀ W,Below w.heap.size w W→Calls Tryd.prog 13 #[.slice Ar raw.length cr,.int .i64 50] W fun e w'=>∃ v',e=.returned v'∧w'.ownsRow W.heap.size 5 1 v' (raw.take 50).length (bv (raw.take 50))∧Below W.heap.size W w'):=fun W hW=>few_any raw w.heap.size Ar cr 50 W (HBY.out.rd.below hW (Nat.le_refl _)) hW.size HBY.out.cap (by have:=HBY.out.reach;omega)
 have HRL5:Hid (∀ z ∈ raw.take 50,z<256):=fun z hz=>HBY.out.lt z (List.mem_of_mem_take hz)
 have HRN5:Hid ((raw.take 50).length≤50):=by show _≤_;rw [List.length_take];omega
 obtain ⟨r5,hr5⟩:∃ x,Hid (raw.take 50=x):=⟨_,rfl⟩
 rw [hr5.out] at HF7 HRL5 HRN5
 have HHD:Hid (Sl.IsPart (w6.alloc (.cells #[.int .u8 64,.int .u8 (y:Int)] 5)) (w6.heap.size+1) (.slice (some ⟨w6.heap.size,0,none⟩) 2 2) [64,y]) :=
  ⟨some ⟨w6.heap.size,0,none⟩,2,rfl,rd_new _ _ _ _ _ _ _ rfl (Nat.lt_succ_self _) rfl rfl,by simp,by simp,fun z hz=>by
   simp only [List.mem_cons,List.not_mem_nil,or_false] at hz
   omega⟩
 go_wp2_with fail
 rw [hy]
 refine (HF7.out _ (HB6.out.alloc HB6.out.size _)).mono ?_
 rintro e w7 ⟨v7,rfl,ho7,hb7⟩
 obtain ⟨A7,c7,rfl,hc7,_,_,hr7⟩:=own_form ho7
 rw [Nat.mul_one] at hr7
 have HBA:Hid (Below w6.heap.size w6 w7):=((Below.refl _ _).alloc (Nat.le_refl _) _).trans (hb7.mono (by simp))
 have HB7:Hid (Below w.heap.size w w7):=HB6.out.trans (HBA.out.mono HB6.out.size)
 have HP7:Hid (Sl.IsPart w7 w7.heap.size (.slice A7 r5.length c7) r5):=⟨A7,c7,rfl,hr7,hc7,by have:=HRN5.out;omega,HRL5.out⟩
 have HH7:Hid (Sl.IsPart w7 w7.heap.size (.slice (some ⟨w6.heap.size,0,none⟩) 2 2) [64,y]):=(HHD.out.below hb7 (by simp)).more (by have:=hb7.size;simpa using this)
 have HCL:=Lib.hid (fun num=>Sl.rclose_any key num [64,y] r5 _ _ w7.heap.size w7 HKEY.out HH7.out HP7.out (Nat.le_refl _) (by have:=HRN5.out;omega))
 have HO57:=Lib.hid (own_below HO56.out HBA.out)
 have HO67:=Lib.hid (own_below HO6.out HBA.out)
 obtain ⟨L7,hL7⟩:∃ L,Hid (r5.length=L):=⟨_,rfl⟩
 have hL7n:L7≤50:=by rw [← hL7.out];exact HRN5.out
 rw [hL7.out] at HCL ⊢
 clear ho7 hb7 hc7 hr7 HHD HF7 HO56 HO6
 go_wp2_with fail
 refine (HCL.out _).mono ?_
 rintro e w8 ⟨v8,rfl,ho8,hb8⟩
 obtain ⟨A8,c8,rfl,_,_,_,hr8⟩:=own_form ho8
 have HB8:Hid (Below w.heap.size w w8):=HB7.out.trans (hb8.mono HB7.out.size)
 have HO58:=Lib.hid (own_below HO57.out hb8)
 have HO68:=Lib.hid (own_below HO67.out hb8)
 have HR8:=Lib.hid hr8
 obtain ⟨cb,hcb⟩:∃ x,Hid (Sl.closeF key (y:Int) [64,y] r5=x):=⟨_,rfl⟩
 have HCB:Hid (∀ z ∈ cb,z<256):=fun z hz=>by rw [← hcb.out] at hz;exact Sl.closeF_lt key _ _ _ HRL5.out z hz
 rw [hcb.out] at HR8
 clear ho8 hb8 hr8 HO57 HO67
 have hyc:(w8.alloc (.cells #[.int .u8 64,.int .u8 (y:Int)] 5)).ownsRow w.heap.size 5 1 (.slice (some ⟨w8.heap.size,0,none⟩) 2 2) 2 (bv [64,y]):=own_new w8 #[.int .u8 64,.int .u8 (y:Int)] 5 1 2 _ _ rfl rfl (by unfold maxLen;omega) HB8.out.size
 have HYC:=Lib.hid hyc
 have HR8B:Hid (Rd (w8.alloc (.cells #[.int .u8 64,.int .u8 (y:Int)] 5)) w8.heap.size A8 ((L7+8) * 1) (bv cb)):=HR8.out.alloc (Nat.le_refl _) _
 have hsz8:Hid (w.heap.size≤(w8.alloc (.cells #[.int .u8 64,.int .u8 (y:Int)] 5)).heap.size):=by have:=HB8.out.size;show _≤_;simp only [World.size_alloc];omega
 clear hyc
 go_wp2_with (at_builtin;refine wpList_app _ rfl (.tmp 126) (.tmp 127) 24 rfl w.heap.size 5 i0 (.int .u8 0) 1 1 Tryd.underlying24 HI.out.1 HI.out.2.1 HI.out.2.2.1 HI.out.2.2.2 rfl (by decide) (.slice (some ⟨w8.heap.size,0,none⟩) 2 2) 2 (bv [64,y]) rfl HYC.out w8.heap.size A8 (L7+8) c8 (bv cb) rfl HR8B.out (ones_bv _) (by unfold maxLen;omega) (by omega) hsz8.out ?_)
 intro v9 w9 ho9 hg9
 obtain ⟨A9,c9,rfl,hc9,_,_,hr9⟩:=own_form ho9
 rw [Nat.mul_one,← bv_app] at hr9
 have HB9:Hid (Below w.heap.size w w9):=(HB8.out.alloc HB8.out.size _).grown hg9 hsz8.out (fun g hg=>(HYC.out.lt g hg).1)
 have hba8:=(Below.refl w8.heap.size w8).alloc (Nat.le_refl _) (.cells #[.int .u8 64,.int .u8 (y:Int)] 5)
 have HBW8:Hid (Below w8.heap.size w8 w9):=hba8.grown hg9 (by simp) (fun j hj=>by simp [Value.ownBlock] at hj;omega)
 have HO59:=Lib.hid (own_below HO58.out HBW8.out)
 have HO69:=Lib.hid (own_below HO68.out HBW8.out)
 have HZ:Hid (∀ j:Nat,j<4→∃ Az nz cz bz,(∀ w,(Instr.index 35 (.agg #[.slice A5 db.length c5,.slice Ar raw.length cr,.slice A6 eb.length c6,.slice A9 (2+(L7+8)) c9]) (.int .i64 (j:Int))).run Tryd.prog w=.ok (.slice Az nz cz) w)∧(∀ W,Below w9.heap.size w9 W→Rd W W.heap.size Az nz (bv bz))∧bz.length=nz∧nz≤cz∧(∀ z ∈ bz,z<256)∧nz≤140737488355328):=fun j hj=>by
  have rdO:∀ {A:Option Addr} {L c:Nat} {l:List Nat} {b:Nat},w9.ownsRow b 5 1 (.slice A L c) L (bv l)→l.length=L→(∀ W,Below w9.heap.size w9 W→Rd W W.heap.size A L (bv l))∧L≤c:=fun ho hl=>by
   obtain ⟨_,_,ev,hnc,_,_,hrd⟩:=own_form ho
   simp only [Value.slice.injEq] at ev
   obtain ⟨rfl,_,rfl⟩:=ev
   rw [Nat.mul_one] at hrd
   exact ⟨fun W hW=>(hrd.below hW (Nat.le_refl _)).more hW.size,hnc⟩
  have hc:j=0∨j=1∨j=2∨j=3:=by omega
  rcases hc with rfl | rfl | rfl | rfl
  ·exact ⟨A5,db.length,c5,db,fun _=>by kernel_rfl,(rdO HO59.out rfl).1,rfl,(rdO HO59.out rfl).2,HDL.out,by have:=HDN.out;omega⟩
  ·exact ⟨Ar,raw.length,cr,raw,fun _=>by kernel_rfl,fun W hW=>(HBY.out.rd.below (HB9.out.trans (hW.mono HB9.out.size)) (Nat.le_refl _)).more (Nat.le_trans HB9.out.size hW.size),rfl,HBY.out.cap,HBY.out.lt,by have:=HBY.out.reach;omega⟩
  ·exact ⟨A6,eb.length,c6,eb,fun _=>by kernel_rfl,(rdO HO69.out rfl).1,rfl,(rdO HO69.out rfl).2,HEL.out,by have:=HEN.out;omega⟩
  ·have hl9:([64,y] ++ cb).length=2+(L7+8):=by have:=hr9.1;rw [bv_len] at this;exact this
   refine ⟨A9,2+(L7+8),c9,[64,y] ++ cb,fun _=>by kernel_rfl,fun W hW=>(hr9.below hW (Nat.le_refl _)).more hW.size,hl9,hc9,fun z hz=>?_,by omega⟩
   rcases List.mem_append.1 hz with h | h
   ·simp only [List.mem_cons,List.not_mem_nil,or_false] at h;omega
   ·exact HCB.out z h
 clear ho9 hg9 hr9 hc9 hba8 hy hy2 HYC HO58 HO68 HR8 HR8B hsz8 HCL HP7 HH7
 go_wp2_with fail
 go_loopw [130] (fun i wr=>∃ j:Nat,j≤4∧i=.int .i64 (j:Int)∧Hid (Below w9.heap.size w9 wr)) (fun i _=>4 - (intOf i).toNat)
 case atStart=>exact ⟨0,by omega,rfl,Below.refl _ _⟩
 case round =>
  obtain ⟨j,hj,rfl,HK⟩:=hrel
  by_cases hlt:j<4
  ·obtain ⟨Az,nz,cz,bz,hix,hrz,hlz,hcz,hbz,hmz⟩:=HZ.out j hlt
   have HBZ:=Lib.hid hbz
   have hli:(j:Int)<4:=by omega
   have HFW:=few_any bz wr.heap.size Az cz 400 wr (by rw [hlz];exact hrz wr HK.out) (Nat.le_refl _) (by rw [hlz];exact hcz) (by rw [hlz];exact hmz)
   rw [hlz] at HFW
   have HFW:=Lib.hid HFW
   have HD0:Hid ((∀ z ∈ bz.take 400,z<256)∧(bz.take 400).length≤400):=⟨fun z hz=>HBZ.out z (List.mem_of_mem_take hz),by rw [List.length_take];omega⟩
   obtain ⟨d,hd⟩:∃ x,Hid (bz.take 400=x):=⟨_,rfl⟩
   rw [hd.out] at HFW HD0
   obtain ⟨m,hm⟩:∃ m,Hid (d.length=m):=⟨_,rfl⟩
   rw [hm.out] at HFW HD0
   have hm4:m≤400:=HD0.out.2
   clear hrz hlz hcz hbz hmz
   go_wp2_with fail
   refine HFW.out.mono ?_
   rintro e wa ⟨va,rfl,hoa,hba⟩
   obtain ⟨Aa,ca,rfl,_⟩:=own_form hoa
   have HOA:=Lib.hid hoa
   have HBA2:Hid (Below w9.heap.size w9 wa):=HK.out.trans (hba.mono HK.out.size)
   have HWR:Hid (w9.heap.size≤wr.heap.size):=HK.out.size
   clear hoa hba HFW
   go_upto_region 17 with (fail)
   go_cut [142] (fun v wx=>∃ bb,v=.bool bb∧(bb=true→0<m)∧wa=wx)
   case first =>
    by_cases hm0:m=0
    ·have h1:decide ((0:Int)<(m:Int))=false:=decide_eq_false (by omega)
     have h2:decide (0<m)=false:=decide_eq_false (by omega)
     have h3:¬ (0:Int)<(m:Int):=by omega
     clear hm0
     go_wp2_with fail
     go_meet
     case rel=>exact ⟨_,rfl,fun h=>(by simp at h),rfl⟩
    ·have h1:(0:Int)<(m:Int):=by omega
     go_wp2_with fail
     all_goals
      go_meet
      case rel=>exact ⟨_,rfl,fun _=>by omega,rfl⟩
   case rest =>
   obtain ⟨bb,rfl,hbb,rfl⟩:=hcut
   go_upto_if 142 with (fail)
   go_cut [33] (fun v wx=>∃ (A':Option Addr) (c':Nat) (d':List Nat),v=.slice A' m c'∧Hid (wx.ownsRow wr.heap.size 5 1 (.slice A' m c') m (bv d')∧d'.length=m∧(∀ z ∈ d',z<256)∧Below w9.heap.size w9 wx))
   case first =>
    cases bb
    ·go_wp2_with fail
     go_meet
     case rel=>exact ⟨Aa,ca,d,rfl,HOA.out,hm.out,HD0.out.1,HBA2.out⟩
    ·have hm1:=hbb rfl
     have hm1i:(0:Int)<(m:Int):=by omega
     have HPK:Hid (∀ (x:Int) (W:World),Calls Tryd.prog 5 #[.int .i64 x,.int .i64 (m:Int)] W fun e w'=>∃ J:Nat,J<m∧e=.returned (.int .i64 (J:Int))∧W=w'):=fun x W=>(pick_any x (m:Int) W (by omega) (by omega)).mono fun e w' ⟨h1,h2⟩=>by
      have r0:=Int.emod_nonneg x (show (m:Int)≠0 by omega)
      have r1:=Int.emod_lt_of_pos x (show (0:Int)<(m:Int) by omega)
      exact ⟨(x % (m:Int)).toNat,by omega,by rw [h1,Int.toNat_of_nonneg r0],h2⟩
     obtain ⟨g,cg,hga,hge⟩:=own_at' HOA.out hm1 (by decide)
     simp only [Value.slice.injEq] at hga
     obtain ⟨rfl,_,rfl⟩:=hga
     have hfz:=HOA.out.frozenAt
     have hLc:(m:Int)≤(ca:Int):=by
      obtain ⟨_,_,ev,hnc,_⟩:=own_form HOA.out
      simp only [Value.slice.injEq] at ev
      omega
     clear hbb
     go_wp2_with fail
     refine (HPK.out _ _).mono ?_
     rintro e w' ⟨J,hJ,rfl,rfl⟩
     have hx:d.getD J 0<256:=getD_lt HD0.out.1 J
     have hcell:wa.cell? ⟨g,J,none⟩=some (.int .u8 ((d.getD J 0:Nat):Int)):=by
      rw [HOA.out.cellAt J (by omega)]
      exact bv_get d J (by rw [hm.out];exact hJ)
     have hfj:=hfz J
     have HX:Hid (bits .xor .u8 ((d.getD J 0:Nat):Int) (with_:Int)=((d.getD J 0 ^^^ with_:Nat):Int)):=u8_xor_nat _ _ hx HWI.out
     have HNW:Hid ((wa.setCell ⟨g,J,none⟩ (.int .u8 ((d.getD J 0 ^^^ with_:Nat):Int))).ownsRow wr.heap.size 5 1 (.slice (some ⟨g,0,none⟩) m ca) m (bv (d.set J (d.getD J 0 ^^^ with_)))):=by
      have:=(HOA.out.stored J (.int .u8 ((d.getD J 0 ^^^ with_:Nat):Int))).1
      have e:(bv d).set J (.int .u8 ((d.getD J 0 ^^^ with_:Nat):Int))=bv (d.set J (d.getD J 0 ^^^ with_)):=by simp [bv,List.map_set]
      rw [e] at this
      exact this
     have HXL:Hid (d.getD J 0 ^^^ with_<256):=Nat.xor_lt_two_pow (n:=8) hx HWI.out
     have hJi:(J:Int)<(m:Int):=by omega
     have hge9:Hid (w9.heap.size≤g):=Nat.le_trans HWR.out hge
     obtain ⟨xb,hxb⟩:∃ x,d.getD J 0=x:=⟨_,rfl⟩
     rw [hxb] at hcell HX HNW HXL
     clear hxb hx hfz hge
     go_wp2_with fail
     (try rw [HX.out])
     go_meet
     case rel =>
      exact ⟨_,ca,d.set J (xb ^^^ with_),rfl,HNW.out,by rw [List.length_set];exact hm.out,fun z hz=>by
       rcases List.mem_or_eq_of_mem_set hz with h | h
       ·exact HD0.out.1 z h
       ·rw [h];exact HXL.out,HBA2.out.setCell hge9.out _⟩
   case rest =>
   obtain ⟨A',c',d',rfl,HQ⟩:=hcut
   obtain ⟨wb,hwb⟩:∃ wb:World,wc=wb:=⟨_,rfl⟩
   subst hwb
   clear HOA HBA2 hbb
   go_upto_region 19 with (fail)
   go_cut [34] (fun v wx=>∃ x:Int,v=.int .i64 x∧wc=wx)
   case first =>
    go_wp2_with fail
    refine (P3.out _).mono ?_;rintro e w' ⟨rfl,rfl⟩
    go_wp2_with fail
    all_goals
     go_meet
     case rel=>exact ⟨_,rfl,rfl⟩
   case rest =>
   obtain ⟨x,rfl,hwx⟩:=hcut
   subst hwx
   have HRDB:Hid (Rd wc wc.heap.size A' d'.length (bv d')∧d'.length≤c'):=by
    obtain ⟨q1,q2,q3,q4⟩:=HQ.out
    obtain ⟨_,_,ev,hnc,_,_,hrd⟩:=own_form q1
    simp only [Value.slice.injEq] at ev
    obtain ⟨rfl,_,rfl⟩:=ev
    rw [Nat.mul_one] at hrd
    rw [q2]
    exact ⟨hrd,hnc⟩
   have HDM:Hid (d'.length=m):=HQ.out.2.1
   have HDT:Hid (∀ z ∈ d',z<256):=HQ.out.2.2.1
   have HBC:Hid (Below w9.heap.size w9 wc):=HQ.out.2.2.2
   have HRD1:=Lib.hid (pkRead_any key x d' A' c' wc HRDB.out.1 HDT.out HRDB.out.2 (by rw [HDM.out];omega) HKEY.out)
   rw [HDM.out] at HRD1
   have HSM:=Lib.hid (rdF_small (key:=key) (next:=x) HDT.out (by rw [HDM.out];omega))
   obtain ⟨rf,hrf⟩:∃ y,Hid (rdF key x d'=y):=⟨_,rfl⟩
   rw [hrf.out] at HSM
   obtain ⟨rp,rfs,re⟩:=rf
   clear HQ
   go_wp2_with fail
   refine HRD1.out.mono ?_
   rintro e wd hq
   obtain ⟨Af,cf,rfl,hfo,hbd⟩:=rdP_form hq
   rw [hrf.out] at hfo ⊢
   have HBD:Hid (Below w9.heap.size w9 wd):=HBC.out.trans (hbd.mono HBC.out.size)
   have HRD2:=Lib.hid (rpkRead_any key x d' A' c' wd ((HRDB.out.1.below hbd (Nat.le_refl _)).more hbd.size) HDT.out HRDB.out.2 (by rw [HDM.out];omega) HKEY.out)
   rw [HDM.out] at HRD2
   have HFO:=Lib.hid hfo
   simp only
   obtain ⟨LF,hLF⟩:∃ L,Hid (rfs.length=L):=⟨_,rfl⟩
   rw [hLF.out]
   clear hq hfo hbd HRD1
   go_wp2_with fail
   refine HRD2.out.mono ?_
   rintro e we hq
   obtain ⟨Ag,cg,rfl,hgo,hbe⟩:=rdP_form hq
   rw [hrf.out] at hgo ⊢
   have HBE:Hid (Below w9.heap.size w9 we):=HBD.out.trans (hbe.mono HBD.out.size)
   have HFO2:=Lib.hid (HFO.out.below hbe)
   have HGO:=Lib.hid hgo
   simp only
   rw [hLF.out]
   have HA:Hid (Frs we Af LF cf rfs):=FrsOwn.frs (hLF.out ▸ HFO2.out) hLF.out
   have HB:Hid (Frs we Ag LF cg rfs):=FrsOwn.frs (hLF.out ▸ HGO.out) hLF.out
   have HN:LF≤1000000:=by rw [← hLF.out];exact HSM.out.1
   have HSF:=Lib.hid (rsames_same rfs rfs rfl Af Ag LF cf cg we HA.out HB.out HN HSM.out.2)
   clear hq hgo hbe HRD2 HFO HFO2 HGO HA HB HSM hrf
   have hpp:(rp != rp)=false:=bne_self_eq_false rp
   have hee:(re != re)=false:=bne_self_eq_false re
   go_wp2_with fail
   refine HSF.out.mono ?_
   rintro e wf ⟨rfl,hbf⟩
   have HBF:Hid (Below w9.heap.size w9 wf):=HBE.out.trans (hbf.mono HBE.out.size)
   clear hbf
   go_wp2_with fail
   go_roundw
   case rel=>exact ⟨j+1,by omega,by go_num,HBF⟩
   case measure=>simp [intOf];omega
  ·obtain rfl:j=4:=by omega
   go_wp2_with fail
   refine (HKN.out _ (HB9.out.trans (HK.out.mono HB9.out.size))).mono ?_
   rintro e wz ⟨rfl,hb⟩
   have HZW:Hid (Below w.heap.size w wz):=HB9.out.trans ((HK.out.trans (hb.mono HK.out.size)).mono HB9.out.size)
   clear hb
   go_wp2_with fail
   go_ret
   exact ⟨rfl,HZW.out⟩
end Go.Proofs.YtccljifichaieaaDoor.Rv
