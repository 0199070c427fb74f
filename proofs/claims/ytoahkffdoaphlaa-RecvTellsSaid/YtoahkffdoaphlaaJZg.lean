/- Joined texts. Conditions: as each theorem lists them. -/
import Derived.Test.YtoahkffdoaphlaaJZf
set_option linter.unusedSimpArgs false
set_option linter.unusedVariables false
set_option maxRecDepth 100000
set_option maxHeartbeats 80000000
namespace Go.Proofs.Ytoahkffdoaphlaa.Re
open Go Go.RowKit Go.Proofs.Ytoahkffdoaphlaa Go.Proofs.Ytoahkffdoaphlaa.Sp Go.Proofs.Ytoahkffdoaphlaa.Se Go.Maps
section
variable {w w':World} {p:Nat} {F:List Nat} {v0 v4:Value} {n:Nat} {s:Rs}
theorem put_arg (h:RcIn w p F v0 v4 n s) (off:Int) (fin:Bool) (N:Nat) (A:Option Addr) (c:Nat) (hoff:off<0∨off > 4611686018427387903 - (N:Int)) (hN:N≤1099511627776) :
  Calls Try.prog 42 #[.pointer (some ⟨p,0,none⟩),.int .i64 off,.bool fin,.slice A N c] w fun e w'=>e=.returned (.tuple #[.int .i64 0,.int .i64 1])∧RcTo w w' p F n s:=by
 have HT:=Lib.hid (h.here (Below.refl _ _))
 have hw1:IntKind.i64.wrap (4611686018427387903 - (N:Int))=4611686018427387903 - (N:Int):=IntWalk.i64_in _ (by omega)
 clear h
 by_cases h0:off<0
 ·clear hoff
  go_enter Try.func42,Try.ntmps42
  go_wp2_with fail
  go_ret2
  exact ⟨rfl,HT.out⟩
 ·have h1:4611686018427387903 - (N:Int)<off:=by omega
  clear hoff
  go_enter Try.func42,Try.ntmps42
  go_wp2_with fail
  go_ret2
  exact ⟨rfl,HT.out⟩
theorem put_ref (h:RcIn w p F v0 v4 n s) (off:Int) (fin:Bool) (N:Nat) (A:Option Addr) (c:Nat) (h0:0≤off) (h1:off≤4611686018427387903 - (N:Int)) (hN:N≤1099511627776) (hr:refuseS s (off+(N:Int)) fin≠0) :
  Calls Try.prog 42 #[.pointer (some ⟨p,0,none⟩),.int .i64 off,.bool fin,.slice A N c] w fun e w'=>e=.returned (.tuple #[.int .i64 0,.int .i64 (refuseS s (off+(N:Int)) fin)])∧RcTo w w' p F n s:=by
 have HT:=Lib.hid (h.here (Below.refl _ _))
 have hw1:IntKind.i64.wrap (4611686018427387903 - (N:Int))=4611686018427387903 - (N:Int):=IntWalk.i64_in _ (by omega)
 have hw2:IntKind.i64.wrap (off+(N:Int))=off+(N:Int):=IntWalk.i64_in _ (by omega)
 have HR:=Lib.hid (refuse_rc h (off+(N:Int)) fin)
 obtain ⟨r,hr'⟩:∃ x,refuseS s (off+(N:Int)) fin=x:=⟨_,rfl⟩
 rw [hr'] at HR hr ⊢
 have hrb:(r == 0)=false:=by simpa using hr
 have hb1:¬ off<0:=by omega
 have hb2:¬ 4611686018427387903 - (N:Int)<off:=by omega
 clear h hr' hr
 go_enter Try.func42,Try.ntmps42
 go_wp2_with fail
 refine HR.out.mono ?_
 rintro e w1 ⟨rfl,hw1⟩
 have hw1:=hw1.symm
 subst hw1
 go_wp2_with fail
 go_ret2
 exact ⟨rfl,HT.out⟩
/-- Put, whatever comes. -/
theorem put_rc (h:RcIn w p F v0 v4 n s) (hk:RsNum s) (off:Int) (fin:Bool) (b:List Nat) (A:Option Addr) (c:Nat) (hn:n+b.length≤1152921504606846976)
  (hx:Rd w w.heap.size A b.length (bv b)) (hc:b.length≤c) (hA:0<b.length→∀ a,A=some a→a.block ∉ F) (hlt:∀ x ∈ b,x<256) (hbl:b.length≤1099511627776) :
  Calls Try.prog 42 #[.pointer (some ⟨p,0,none⟩),.int .i64 off,.bool fin,.slice A b.length c] w fun e w'=>e=.returned (.tuple #[.int .i64 (putS s off fin b).1,.int .i64 (putS s off fin b).2.1])∧RcTo w w' p F (n+b.length) (putS s off fin b).2.2:=by
 by_cases h1:off<0∨off > 4611686018427387903 - (b.length:Int)
 ·have e:putS s off fin b=(0,1,s):=by unfold putS;rw [if_pos h1]
  rw [e]
  exact (put_arg h off fin b.length A c h1 hbl).mono fun _ _ hh=>⟨hh.1,hh.2.mono (by omega)⟩
 ·by_cases h2:refuseS s (off+(b.length:Int)) fin=0
  ·obtain ⟨o,rfl⟩:∃ o:Nat,off=(o:Int):=⟨off.toNat,by omega⟩
   exact put_ok h hk o fin b A c (by omega) hn hx hc hA hlt hbl h2
  ·have e:putS s off fin b=(0,refuseS s (off+(b.length:Int)) fin,s):=by unfold putS;rw [if_neg h1,if_pos h2]
   rw [e]
   exact (put_ref h off fin b.length A c (by omega) (by omega) hbl h2).mono fun _ _ hh=>⟨hh.1,hh.2.mono (by omega)⟩
theorem break_arg (h:RcIn w p F v0 v4 n s) (code en' sure:Int) (hb:code<0∨code > 4611686018427387903∨sure<0∨sure > en'∨en' > 4611686018427387903) :
  Calls Try.prog 40 #[.pointer (some ⟨p,0,none⟩),.int .i64 code,.int .i64 en',.int .i64 sure] w fun e w'=>e=.returned (.tuple #[.int .i64 0,.int .i64 1])∧RcTo w w' p F n s:=by
 have HT:=Lib.hid (h.here (Below.refl _ _))
 clear h
 by_cases h1:code<0
 ·clear hb
  go_enter Try.func40,Try.ntmps40
  go_wp2_with fail
  go_ret2
  exact ⟨rfl,HT.out⟩
 ·by_cases h2:4611686018427387903<code
  ·clear hb
   go_enter Try.func40,Try.ntmps40
   go_wp2_with fail
   go_ret2
   exact ⟨rfl,HT.out⟩
  ·by_cases h3:sure<0
   ·clear hb
    go_enter Try.func40,Try.ntmps40
    go_wp2_with fail
    go_ret2
    exact ⟨rfl,HT.out⟩
   ·by_cases h4:en'<sure
    ·clear hb
     go_enter Try.func40,Try.ntmps40
     go_wp2_with fail
     go_ret2
     exact ⟨rfl,HT.out⟩
    ·by_cases h5:4611686018427387903<en'
     ·clear hb
      go_enter Try.func40,Try.ntmps40
      go_wp2_with fail
      go_ret2
      exact ⟨rfl,HT.out⟩
     ·exact absurd hb (by omega)
theorem break_ok (h:RcIn w p F v0 v4 n s) (hk:RsNum s) (code en' sure:Int) (hb:¬ (code<0∨code > 4611686018427387903∨sure<0∨sure > en'∨en' > 4611686018427387903)) :
  Calls Try.prog 40 #[.pointer (some ⟨p,0,none⟩),.int .i64 code,.int .i64 en',.int .i64 sure] w fun e w'=>e=.returned (.tuple #[.int .i64 (breakS s code en' sure).1,.int .i64 (breakS s code en' sure).2.1])∧RcTo w w' p F n (breakS s code en' sure).2.2:=by
 have h1:¬ code<0:=by omega
 have h2:¬ 4611686018427387903<code:=by omega
 have h3:¬ sure<0:=by omega
 have h4:¬ en'<sure:=by omega
 have h5:¬ 4611686018427387903<en':=by omega
 have h6:0≤en':=by omega
 have HT:=Lib.hid (h.here (Below.refl _ _))
 have HR:=Lib.hid (refuse_rc h en' true)
 obtain ⟨r,hr⟩:∃ x,refuseS s en' true=x:=⟨_,rfl⟩
 have HBK:Hid (breakS s code en' sure=if r≠0 then (0,r,s) else (upS s en',0,reachS ⟨s.es,s.rm,s.rd,s.tl,s.top,s.tk,true,s.br || !wholeS s,if s.br then s.code else if wholeS s then s.code else code,if s.br then min s.sure sure else if wholeS s then s.sure else sure,s.K⟩ en')):=by
  show breakS s code en' sure=_
  unfold breakS
  rw [if_neg hb,hr]
 rw [hr] at HR
 clear hb hr
 by_cases hr0:r=0
 ·subst hr0
  rw [if_neg (by simp)] at HBK
  rw [HBK.out]
  have HH:=Lib.hid h
  have HK:=Lib.hid hk
  have HWH:=Lib.hid (whole_rc h (by have:=hk.len;omega))
  obtain ⟨_,_,_,_,_,_,_,_,hc8,_,hc10⟩:=h.cells
  have hf7:=h.free 7
  have hf8:=h.free 8
  have hf9:=h.free 9
  have hf10:=h.free 10
  obtain ⟨wh,hwh⟩:∃ x,wholeS s=x:=⟨_,rfl⟩
  have HWE:=Lib.hid hwh
  rw [hwh] at HWH ⊢
  obtain ⟨br,hbr⟩:∃ x,s.br=x:=⟨_,rfl⟩
  have HBE:=Lib.hid hbr
  rw [hbr] at hc8 ⊢
  obtain ⟨su,hsu⟩:∃ x,s.sure=x:=⟨_,rfl⟩
  have HSE:=Lib.hid hsu
  rw [hsu] at hc10 ⊢
  clear h hk hwh hbr hsu HBK
  cases br
  ·cases wh
   ·have HB0:=fun q=>(HH.out.drewN q).put ⟨s.es,s.rm,s.rd,s.tl,s.top,s.tk,s.en,true,s.code,s.sure,s.K⟩ 8 (.bool true) rfl rfl rfl
    have HB1:=fun q=>(HB0 q).put ⟨s.es,s.rm,s.rd,s.tl,s.top,s.tk,s.en,true,code,s.sure,s.K⟩ 9 (.int .i64 code) rfl rfl rfl
    have HB2:=fun q=>(HB1 q).put ⟨s.es,s.rm,s.rd,s.tl,s.top,s.tk,s.en,true,code,sure,s.K⟩ 10 (.int .i64 sure) rfl rfl rfl
    have HB:=Lib.hid (fun q=>(HB2 q).put ⟨s.es,s.rm,s.rd,s.tl,s.top,s.tk,true,true,code,sure,s.K⟩ 7 (.bool true) rfl rfl rfl)
    have HKB:Hid (∀ q,Kept F w (((((w.drewN q).setCell ⟨p,8,none⟩ (.bool true)).setCell ⟨p,9,none⟩ (.int .i64 code)).setCell ⟨p,10,none⟩ (.int .i64 sure)).setCell ⟨p,7,none⟩ (.bool true))):=fun q=>(((((Kept.refl F w).drewN q).then ((HH.out.drewN q).kput 8 _)).then ((HB0 q).kput 9 _)).then ((HB1 q).kput 10 _)).then ((HB2 q).kput 7 _)
    clear HB0 HB1 HB2 HT
    obtain ⟨sk,hsk⟩:∃ x:Rs,⟨s.es,s.rm,s.rd,s.tl,s.top,s.tk,true,false || !false,if false=true then s.code else if false=true then s.code else code,if false=true then min su sure else if false=true then su else sure,s.K⟩=x:=⟨_,rfl⟩
    have HSK:Hid (sk=⟨s.es,s.rm,s.rd,s.tl,s.top,s.tk,true,true,code,sure,s.K⟩):=hsk.symm
    rw [hsk]
    clear hsk
    rw [← HSK.out] at HB
    have HTP:Hid (sk.top=s.top):=by show sk.top=s.top;rw [HSK.out]
    have HUP:Hid (upS sk en'=upS s en'):=by show upS sk en'=_;unfold upS;rw [HTP.out]
    have HRE:=Lib.hid (fun q=>reach_rc (HB.out q) (by rw [HTP.out];exact HK.out.top) en' ⟨h6,by omega⟩)
    rw [HUP.out] at HRE
    go_enter Try.func40,Try.ntmps40
    go_wp2_with fail
    refine HR.out.mono ?_
    rintro e w1 ⟨rfl,hw1⟩
    have hw1:=hw1.symm
    subst hw1
    go_wp2_with fail
    refine HWH.out.mono ?_
    rintro e w1 ⟨rfl,q,rfl⟩
    go_wp2_with fail
    refine (HRE.out q).mono ?_
    rintro e w2 ⟨rfl,ht⟩
    have HT2:=Lib.hid (RcTo.trans (HKB.out q) (fun _ hk=>.inl hk) ht)
    go_wp2_with fail
    go_ret2
    exact ⟨rfl,HT2.out⟩
   ·have HB:=Lib.hid (HH.out.put ⟨s.es,s.rm,s.rd,s.tl,s.top,s.tk,true,s.br,s.code,s.sure,s.K⟩ 7 (.bool true) rfl rfl rfl)
    rw [HBE.out,HSE.out] at HB
    clear HT
    obtain ⟨sk,hsk⟩:∃ x:Rs,⟨s.es,s.rm,s.rd,s.tl,s.top,s.tk,true,false || !true,if false=true then s.code else if true=true then s.code else code,if false=true then min su sure else if true=true then su else sure,s.K⟩=x:=⟨_,rfl⟩
    have HSK:Hid (sk=⟨s.es,s.rm,s.rd,s.tl,s.top,s.tk,true,false,s.code,su,s.K⟩):=hsk.symm
    rw [hsk]
    clear hsk
    rw [← HSK.out] at HB
    have HB':Hid (∀ q,RcIn ((w.drewN q).setCell ⟨p,7,none⟩ (.bool true)) p F v0 v4 n sk):=fun q=>by
     rw [HSK.out]
     have:=(HH.out.drewN q).put ⟨s.es,s.rm,s.rd,s.tl,s.top,s.tk,true,s.br,s.code,s.sure,s.K⟩ 7 (.bool true) rfl rfl rfl
     rw [HBE.out,HSE.out] at this
     exact this
    have HKB:Hid (∀ q,Kept F w ((w.drewN q).setCell ⟨p,7,none⟩ (.bool true))):=fun q=>((Kept.refl F w).drewN q).then ((HH.out.drewN q).kput 7 _)
    have HTP:Hid (sk.top=s.top):=by show sk.top=s.top;rw [HSK.out]
    have HUP:Hid (upS sk en'=upS s en'):=by show upS sk en'=_;unfold upS;rw [HTP.out]
    have HRE:=Lib.hid (fun q=>reach_rc (HB'.out q) (by rw [HTP.out];exact HK.out.top) en' ⟨h6,by omega⟩)
    rw [HUP.out] at HRE
    clear HB
    go_enter Try.func40,Try.ntmps40
    go_wp2_with fail
    refine HR.out.mono ?_
    rintro e w1 ⟨rfl,hw1⟩
    have hw1:=hw1.symm
    subst hw1
    go_wp2_with fail
    refine HWH.out.mono ?_
    rintro e w1 ⟨rfl,q,rfl⟩
    go_wp2_with fail
    refine (HRE.out q).mono ?_
    rintro e w2 ⟨rfl,ht⟩
    have HT2:=Lib.hid (RcTo.trans (HKB.out q) (fun _ hk=>.inl hk) ht)
    go_wp2_with fail
    go_ret2
    exact ⟨rfl,HT2.out⟩
  ·have HB0:=HH.out.put ⟨s.es,s.rm,s.rd,s.tl,s.top,s.tk,s.en,s.br,s.code,min su sure,s.K⟩ 10 (.int .i64 (min su sure)) rfl rfl rfl
   have HB:=Lib.hid (HB0.put ⟨s.es,s.rm,s.rd,s.tl,s.top,s.tk,true,s.br,s.code,min su sure,s.K⟩ 7 (.bool true) rfl rfl rfl)
   have HKB:Hid (Kept F w ((w.setCell ⟨p,10,none⟩ (.int .i64 (min su sure))).setCell ⟨p,7,none⟩ (.bool true))):=(HH.out.kput 10 _).then (HB0.kput 7 _)
   rw [HBE.out] at HB
   clear HB0 HT
   obtain ⟨sk,hsk⟩:∃ x:Rs,⟨s.es,s.rm,s.rd,s.tl,s.top,s.tk,true,true || !wh,if true=true then s.code else if wh=true then s.code else code,if true=true then min su sure else if wh=true then su else sure,s.K⟩=x:=⟨_,rfl⟩
   have HSK:Hid (sk=⟨s.es,s.rm,s.rd,s.tl,s.top,s.tk,true,true,s.code,min su sure,s.K⟩):=hsk.symm
   rw [hsk]
   clear hsk
   rw [← HSK.out] at HB
   have HTP:Hid (sk.top=s.top):=by show sk.top=s.top;rw [HSK.out]
   have HUP:Hid (upS sk en'=upS s en'):=by show upS sk en'=_;unfold upS;rw [HTP.out]
   have HRE:=Lib.hid (reach_rc HB.out (by rw [HTP.out];exact HK.out.top) en' ⟨h6,by omega⟩)
   rw [HUP.out] at HRE
   go_enter Try.func40,Try.ntmps40
   go_wp2_with fail
   refine HR.out.mono ?_
   rintro e w1 ⟨rfl,hw1⟩
   have hw1:=hw1.symm
   subst hw1
   go_wp2_with fail
   refine HRE.out.mono ?_
   rintro e w2 ⟨rfl,ht⟩
   have HT2:=Lib.hid (RcTo.trans HKB.out (fun _ hk=>.inl hk) ht)
   go_wp2_with fail
   go_ret2
   exact ⟨rfl,HT2.out⟩
 ·rw [if_pos hr0] at HBK
  rw [HBK.out]
  have hrb:(r == 0)=false:=by simpa using hr0
  clear h hk hr0 HBK
  go_enter Try.func40,Try.ntmps40
  go_wp2_with fail
  refine HR.out.mono ?_
  rintro e w1 ⟨rfl,hw1⟩
  have hw1:=hw1.symm
  subst hw1
  go_wp2_with fail
  go_ret2
  exact ⟨rfl,HT.out⟩
/-- Break, whatever comes. -/
theorem break_rc (h:RcIn w p F v0 v4 n s) (hk:RsNum s) (code en' sure:Int) :
  Calls Try.prog 40 #[.pointer (some ⟨p,0,none⟩),.int .i64 code,.int .i64 en',.int .i64 sure] w fun e w'=>e=.returned (.tuple #[.int .i64 (breakS s code en' sure).1,.int .i64 (breakS s code en' sure).2.1])∧RcTo w w' p F n (breakS s code en' sure).2.2:=by
 by_cases hb:code<0∨code > 4611686018427387903∨sure<0∨sure > en'∨en' > 4611686018427387903
 ·have e:breakS s code en' sure=(0,1,s):=by unfold breakS;rw [if_pos hb]
  rw [e]
  exact break_arg h code en' sure hb
 ·exact break_ok h hk code en' sure hb
end
end Go.Proofs.Ytoahkffdoaphlaa.Re
