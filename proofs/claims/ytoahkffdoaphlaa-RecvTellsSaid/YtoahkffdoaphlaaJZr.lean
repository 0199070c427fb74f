/- Joined texts. Conditions: as each theorem lists them. -/
import Derived.Test.YtoahkffdoaphlaaJZl
set_option linter.unusedSimpArgs false
set_option linter.unusedVariables false
set_option maxRecDepth 100000
set_option maxHeartbeats 80000000
namespace Go.Proofs.Ytoahkffdoaphlaa.Re
open Go Go.RowKit Go.Proofs.Ytoahkffdoaphlaa Go.Proofs.Ytoahkffdoaphlaa.Sp Go.Proofs.Ytoahkffdoaphlaa.Se Go.Maps
/-- A stream to which bytes of al came, up to E at most, broken off (b) with z sure behind h that were taken. -/
structure SuP (al:List Nat) (E:Nat) (z h:Nat) (b:Bool) (t:Nat) (s:Rs):Prop where
 ri:RI s (fun k=>al.getD k 0)
 rd:s.rd=s.tk
 tl:s.tl=400
 en:s.en=b
 br:s.br=b
 tk:s.tk=(t:Int)
 tE:t≤E
 top:s.top≤(E:Int)
 bk:b=true→s.top=(E:Int)∧s.code=77∧s.sure=(z:Int)∧t≤max z h∧h≤t
theorem SuP.new (al:List Nat) (E z h:Nat):SuP al E z h false 0 newR :=
 ⟨newR_RI _,rfl,rfl,rfl,rfl,rfl,Nat.zero_le _,by show (0:Int)≤E;omega,fun hb=>by cases hb⟩
theorem SuP.brk {al:List Nat} {E z h t:Nat} {s:Rs} (hs:SuP al E z h false t s) (hE:E≤200) (z':Nat) (hz:z'≤E):∃ s1 f,breakS s 77 (E:Int) (z':Int)=(f,0,s1)∧SuP al E z' t true t s1:=by
 have ht:=hs.top
 have htl:=hs.tl
 have hr:refuseS s (E:Int) true=0:=by
  unfold refuseS
  rw [if_neg (by omega),if_neg]
  rw [hs.en]
  simp
  omega
 have h1:=break_form (code:=77) (sure:=(z':Int)) (by omega) hr
 have h2:=hs.ri.brk 77 (E:Int) (z':Int)
 have hw:wholeS s=false:=by unfold wholeS;rw [hs.en];rfl
 refine ⟨_,_,h1,⟨by rw [h1] at h2;exact h2,hs.rd,hs.tl,rfl,?_,hs.tk,hs.tE,Int.le_refl _,fun _=>⟨rfl,?_,?_,Nat.le_max_right _ _,Nat.le_refl _⟩⟩⟩
 ·show (s.br || !wholeS s)=true
  rw [hw];simp
 ·show (if s.br then s.code else if wholeS s then s.code else 77)=77
  rw [hs.br,hw];rfl
 ·show (if s.br then min s.sure (z':Int) else if wholeS s then s.sure else (z':Int))=z'
  rw [hs.br,hw];rfl
theorem SuP.less {al:List Nat} {E z t:Nat} {s:Rs} (hs:SuP al E z t true t s) (hE:E≤200) (hzE:z≤E) (z':Nat) (hz:z'≤z):∃ s1 f,breakS s 5 (E:Int) (z':Int)=(f,0,s1)∧SuP al E z' t true t s1:=by
 have htl:=hs.tl
 obtain ⟨hb1,hb2,hb3,hb4,hb5⟩:=hs.bk rfl
 have hr:refuseS s (E:Int) true=0:=by
  unfold refuseS
  rw [if_neg (by omega),if_neg]
  simp
  omega
 have h1:=break_form (code:=5) (sure:=(z':Int)) (by omega) hr
 have h2:=hs.ri.brk 5 (E:Int) (z':Int)
 refine ⟨_,_,h1,⟨by rw [h1] at h2;exact h2,hs.rd,hs.tl,rfl,?_,hs.tk,hs.tE,Int.le_refl _,fun _=>⟨rfl,?_,?_,Nat.le_max_right _ _,Nat.le_refl _⟩⟩⟩
 ·show (s.br || !wholeS s)=true
  rw [hs.br];rfl
 ·show (if s.br then s.code else if wholeS s then s.code else 5)=77
  rw [hs.br];exact hb2
 ·show (if s.br then min s.sure (z':Int) else if wholeS s then s.sure else (z':Int))=z'
  rw [hs.br,hb3]
  show min (z:Int) (z':Int)=z'
  omega
theorem sub_len (al:List Nat) (a n:Nat) (h:a+n≤al.length):((al.drop a).take n).length=n:=by rw [List.length_take,List.length_drop];omega
theorem SuP.put {al:List Nat} {E z h t:Nat} {b:Bool} {s:Rs} (hs:SuP al E z h b t s) (hE:E≤200) (hL:E≤al.length) (a n:Nat) (han:a+n≤E) :
  ∃ s1 f,putS s (a:Int) false ((al.drop a).take n)=(f,0,s1)∧SuP al E z h b t s1∧∀ x:Int,mem s1.es x=(decide ((a:Int)≤x∧x<(a:Int)+(n:Int)) || mem s.es x):=by
 have hl:=sub_len al a n (by omega)
 have htl:=hs.tl
 have hr:refuseS s ((a:Int)+(((al.drop a).take n).length:Int)) false=0:=by
  rw [hl]
  unfold refuseS
  rw [if_neg (by omega),if_neg]
  rw [hs.en]
  cases b
  ·simp
  ·have:=(hs.bk rfl).1
   simp
   omega
 have h1:=put_form s a false _ (by rw [hl];omega) hr
 have h2:=hs.ri.put a false _ (fun i hi=>by
  rw [hl] at hi
  rw [List.getD_eq_getElem?_getD,List.getD_eq_getElem?_getD,List.getElem?_take_of_lt hi,List.getElem?_drop]) hr
 rw [hl] at h1 h2
 have htp:topS s ((a:Int)+(n:Int)) false n≤(E:Int)∧s.top≤topS s ((a:Int)+(n:Int)) false n:=by
  have:=hs.top
  unfold topS
  split <;> omega
 rw [h1] at h2
 refine ⟨_,_,h1,⟨h2.1,hs.rd,hs.tl,?_,hs.br,hs.tk,hs.tE,htp.1,fun hb=>?_⟩,h2.2⟩
 ·show (s.en || false)=b
  rw [hs.en];simp
 ·obtain ⟨hb1,hb2⟩:=hs.bk hb
  refine ⟨?_,hb2⟩
  show topS s ((a:Int)+(n:Int)) false n=(E:Int)
  omega
theorem take_next (al:List Nat) (t m:Nat) (h:t+m≤al.length):((List.range m).map fun i=>al.getD (t+i) 0)=(al.drop t).take m:=by
 refine List.ext_getElem (by simp;omega) fun i h1 h2=>?_
 have hi:i<m:=by simpa using h1
 rw [List.getElem_map,List.getElem_range,List.getElem_take,List.getElem_drop,List.getD_eq_getElem?_getD,List.getElem?_eq_getElem (by omega)]
 rfl
theorem SuP.take {al:List Nat} {E z h t:Nat} {b:Bool} {s:Rs} (hs:SuP al E z h b t s) (hL:E≤al.length) (most:Int) (m:Nat) (hm:nS s most=(m:Int)) (K':Nat→Nat) (hK:∀ x,t+m≤x→K' x=s.K x) :
  SuP al E z h b (t+m) (takenS s m K')∧seqK s.K t m=(al.drop t).take m∧t+m≤E∧overS (takenS s m K')=(if b=true∧z≤t+m then 2 else 0):=by
 have htk:=hs.tk
 have hin:=nS_in hs.ri.num hs.ri.ok most
 have h1:=hs.ri.take most m t hm htk K' hK
 have htE:t+m≤E:=by
  have h2:=h1.1.tk.2
  have h3:s.tk+(m:Int)≤s.top:=h2
  have h4:=hs.top
  omega
 have htk':(takenS s m K').tk=((t+m:Nat):Int):=by show s.tk+(m:Int)=_;omega
 have hsu:b=true→s.br=true∧m≤max z t - t:=fun hb=>by
  refine ⟨by rw [hs.br,hb],?_⟩
  have h3:=(hs.bk hb).2.2.1
  have hbr:s.br=true:=by rw [hs.br,hb]
  unfold nS readyS at hm
  rw [if_pos hbr] at hm
  omega
 refine ⟨⟨h1.1,?_,hs.tl,hs.en,hs.br,htk',htE,hs.top,fun hb=>?_⟩,?_,htE,?_⟩
 ·show s.rd+Cr.eatF (m:Int)=s.tk+(m:Int)
  rw [hs.rd]
  unfold Cr.eatF
  omega
 ·obtain ⟨hb1,hb2,hb3,hb4,hb5⟩:=hs.bk hb
  have:=(hsu hb).2
  exact ⟨hb1,hb2,hb3,by omega,by omega⟩
 ·rw [h1.2]
  exact take_next al t m (by omega)
 ·unfold overS
  rw [htk']
  show (if (s.br && decide (((t+m:Nat):Int) ≥ s.sure))=true then (2:Int) else if (s.en && !s.br && _)=true then 1 else 0)=_
  rw [hs.en,hs.br]
  cases hb:b
  ·simp
  ·rw [(hs.bk hb).2.2.1]
   by_cases hc:z≤t+m
   ·rw [if_pos (by simp;omega),if_pos ⟨rfl,hc⟩]
   ·rw [if_neg (by simp;omega),if_neg (by simp),if_neg (by simp [hc])]
/-- All came, and it is broken off: one great Take takes all that is sure. -/
theorem SuP.last {al:List Nat} {E z h t:Nat} {s:Rs} (hs:SuP al E z h true t s) (hE:E≤200) (hzE:z≤E) (hm:∀ x:Int,0≤x→x<(E:Int)→mem s.es x=true):nS s 999=((max z t - t:Nat):Int)∧max z t=max z h:=by
 obtain ⟨hb1,hb2,hb3,hb4,hb5⟩:=hs.bk rfl
 have htk:=hs.tk
 have htE:=hs.tE
 refine ⟨?_,by omega⟩
 have hf:=first_spec hs.ri.ok s.tk
 have hfE:(E:Int)≤firstF s.es s.tk:=by
  by_cases hc:(E:Int)≤firstF s.es s.tk
  ·exact hc
  ·exfalso
   have h1:=hm (firstF s.es s.tk) (by have:=hf.1;omega) (by omega)
   have h2:=hf.2.1
   rw [h1] at h2
   cases h2
 unfold nS readyS
 rw [if_pos hs.br]
 omega
theorem SuP.rd_num {al:List Nat} {E z h t:Nat} {b:Bool} {s:Rs} (hs:SuP al E z h b t s) (hE:E≤200):0≤s.rd∧s.rd≤1152921504606846976:=by
 have h1:=hs.rd
 have h2:=hs.tk
 have h3:=hs.tE
 omega
end Go.Proofs.Ytoahkffdoaphlaa.Re
