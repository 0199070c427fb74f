/- Joined texts. Conditions: as each theorem lists them. -/
import Derived.Test.YtoahkffdoaphlaaJZi
import Derived.Test.YtoahkffdoaphlaaJH1
set_option linter.unusedSimpArgs false
set_option linter.unusedVariables false
set_option maxRecDepth 100000
set_option maxHeartbeats 80000000
namespace Go.Proofs.Ytoahkffdoaphlaa.Re
open Go Go.RowKit Go.Proofs.Ytoahkffdoaphlaa Go.Proofs.Ytoahkffdoaphlaa.Sp Go.Proofs.Ytoahkffdoaphlaa.Se Go.Maps
structure Full (S:Rs) (E:Nat) (B:Nat→Nat):Prop where
 ri:RI S B
 mem:∀ x:Int,mem S.es x=decide (0≤x∧x<(E:Int))
 top:S.top=(E:Int)
 tk:S.tk=0
 en:S.en=true
 br:S.br=false
 rd:S.rd=0
 tl:S.tl=400
theorem gaps_nil {es:List Int} (h:Ok es) (f t:Int) (hm:∀ x:Int,clamp f≤x→x<clamp t→Sp.mem es x=true):gapsF es f t=[]:=by
 refine ok_eq (ok_gaps h f t) ok_nil fun x=>?_
 rw [mem_gaps h]
 have e:Sp.mem [] x=false:=by simp [Sp.mem,up,oddB]
 rw [e]
 by_cases hx:clamp f≤x∧x<clamp t
 ·rw [hm x hx.1 hx.2];simp
 ·simp [hx]
theorem cnt_run {es:List Int} (h:Ok es) (E:Nat) (hm:∀ x:Int,Sp.mem es x=decide (0≤x∧x<(E:Int))):cnt es=(E:Int):=by
 have h1:∀ e ∈ es,0≤e∧e≤(E:Int):=fun e he=>⟨(h.2.2 e he).1,edge_top h (by omega) (fun x hx=>by rw [hm] at hx;simpa using hx) e he⟩
 rw [cnt_card E es h.1 h.2.1 h1,card_congr E (Sp.mem es) (fun n=>decide ((0:Int)≤n) && decide (n<(E:Int))) (fun i _ _=>by rw [hm];simp),card_run E 0 (E:Int) (Int.le_refl _) (by omega) (Int.le_refl _)]
 omega
theorem full_new (b:List Nat) (hb:b.length≤400):∃ S,putS newR 0 true b=((b.length:Int),0,S)∧Full S b.length (fun x=>b.getD x 0):=by
 have hr:refuseS newR (((0:Nat):Int)+(b.length:Int)) true=0:=by
  unfold refuseS
  rw [if_neg (by show ¬ _ > (400:Int);omega),if_neg]
  intro hc
  have hc':((0:Nat):Int)+(b.length:Int)<(0:Int):=by simpa [newR] using hc
  omega
 have h1:=put_form newR 0 true b (by omega) hr
 have h2:=(newR_RI (fun x=>b.getD x 0)).put 0 true b (fun i _=>by rw [Nat.zero_add]) hr
 obtain ⟨S,hS⟩:∃ S,(putS newR ((0:Nat):Int) true b).2.2=S:=⟨_,rfl⟩
 rw [hS] at h2
 have ht:topS newR (((0:Nat):Int)+(b.length:Int)) true b.length=(b.length:Int):=by
  unfold topS
  rw [if_neg (fun h=>by cases h.2)]
  show max (0:Int) _=_
  omega
 refine ⟨S,?_,⟨h2.1,fun x=>?_,?_,?_,?_,?_,?_,?_⟩⟩
 ·rw [← hS]
  show putS newR ((0:Nat):Int) true b=_
  rw [h1,ht]
  show ((b.length:Int) - 0,_,_)=_
  rw [Int.sub_zero]
 ·rw [h2.2 x]
  have e:Sp.mem newR.es x=false:=by simp [newR,Sp.mem,up,oddB]
  rw [e,Bool.or_false]
  congr 1
  simp
 all_goals (rw [← hS,h1])
 ·exact ht
 ·rfl
 ·rfl
 ·rfl
 ·rfl
 ·rfl
def wantP (E off n:Nat) (fin:Bool):Int:=if off+n > 400 then 7 else if off+n > E∨(fin=true∧off+n≠E) then 8 else 0
theorem Full.put {S:Rs} {E:Nat} {B:Nat→Nat} (h:Full S E B) (off n:Nat) (fin:Bool) (b:List Nat) (hb:b.length=n) (hs:off+n≤4611686018427387903):putS S (off:Int) fin b=(0,wantP E off n fin,S):=by
 have hrf:refuseS S ((off:Int)+(b.length:Int)) fin=wantP E off n fin:=by
  unfold refuseS wantP
  rw [h.tl,h.top,h.en,hb]
  by_cases h1:off+n > 400
  ·rw [if_pos (by omega),if_pos h1]
  ·rw [if_neg (by omega),if_neg h1]
   by_cases h2:off+n > E∨(fin=true∧off+n≠E)
   ·rw [if_pos h2,if_pos]
    simp only [Bool.true_and,Bool.or_eq_true,Bool.and_eq_true,decide_eq_true_eq]
    rcases h2 with h2 | ⟨h2,h3⟩
    ·left;omega
    ·by_cases h4:off+n > E
     ·left;omega
     ·right;exact ⟨h2,by omega⟩
   ·rw [if_neg h2,if_neg]
    simp only [Bool.true_and,Bool.or_eq_true,Bool.and_eq_true,decide_eq_true_eq]
    rintro (h3 | ⟨h3,h4⟩)
    ·exact h2 (.inl (by omega))
    ·exact h2 (.inr ⟨h3,by omega⟩)
 by_cases hw:wantP E off n fin=0
 ·have hz:=refuse_zero (hrf.trans hw)
  have he:off+n≤E:=by have:=hz.2.1 h.en;rw [h.top,hb] at this;omega
  rw [put_form S off fin b (by omega) (hrf.trans hw),hw]
  have htp:topS S ((off:Int)+(b.length:Int)) fin b.length=S.top:=by
   unfold topS
   rw [h.top]
   split <;> omega
  have hE:=h.ri.top
  have hE2:=h.ri.tl
  have hes:turn S.es off ((off:Int)+(b.length:Int)) true=S.es:=by
   refine ok_eq (ok_turn _ _ _ _ h.ri.ok) h.ri.ok fun x=>?_
   rw [mem_turn _ _ _ _ h.ri.ok,clamp_nat (by omega) (by omega),clamp_nat (by omega) (by omega)]
   split
   ·rw [h.mem];exact (decide_eq_true (by omega)).symm
   ·rfl
  have hgs:gapsF S.es (max (off:Int) S.tk) ((off:Int)+(b.length:Int))=[]:=gaps_nil h.ri.ok _ _ fun x h1 h2=>by
   rw [h.tk,clamp_nat (by omega) (by omega)] at h1
   rw [clamp_nat (by omega) (by omega)] at h2
   rw [h.mem]
   exact decide_eq_true (by omega)
  rw [htp,hes,hgs,mixK_nil,Int.sub_self,h.en,Bool.true_or]
  congr 2
  have:=h.en
  cases S
  simp only at this
  rw [this]
 ·unfold putS
  rw [if_neg (by omega),if_pos (by rw [hrf];exact hw),hrf]
def wantB (E off:Nat) (code:Int):Int:=if code<0∨code > 4611686018427387903 then 1 else if off > 400 then 7 else if off≠E then 8 else 0
theorem Full.brk {S:Rs} {E:Nat} {B:Nat→Nat} (h:Full S E B) (off:Nat) (code:Int) (hs:off≤4611686018427387903):breakS S code (off:Int) 0=(0,wantB E off code,S):=by
 unfold wantB
 by_cases hc:code<0∨code > 4611686018427387903
 ·rw [if_pos hc]
  unfold breakS
  rw [if_pos (by omega)]
 ·rw [if_neg hc]
  have hrf:refuseS S (off:Int) true=if off > 400 then 7 else if off≠E then 8 else 0:=by
   unfold refuseS
   rw [h.tl,h.top,h.en]
   by_cases h1:off > 400
   ·rw [if_pos (by omega),if_pos h1]
   ·rw [if_neg (by omega),if_neg h1]
    by_cases h2:off≠E
    ·rw [if_pos h2,if_pos]
     simp only [Bool.true_and,Bool.or_eq_true,decide_eq_true_eq]
     omega
    ·rw [if_neg h2,if_neg]
     simp only [Bool.true_and,Bool.or_eq_true,decide_eq_true_eq]
     omega
  by_cases hw:refuseS S (off:Int) true=0
  ·have he:off=E:=by
    rw [hrf] at hw
    split at hw
    ·omega
    ·split at hw <;> omega
   rw [break_form (by omega) hw,← hrf,hw]
   have hwh:wholeS S=true:=by
    unfold wholeS
    rw [h.en,Bool.true_and,all_iff h.ri.ok,h.top]
    intro m h1 h2
    have hE:=h.ri.top
    have hE2:=h.ri.tl
    rw [clamp_nat (by omega) (by omega)] at h1
    rw [clamp_nat (by have:=h.top;omega) (by have:=h.top;omega)] at h2
    rw [h.mem]
    exact decide_eq_true (by omega)
   have hb:=h.br
   have hen:=h.en
   have ht:=h.top
   cases S
   simp only at hb hen ht
   subst hb hen ht
   rw [hwh]
   simp only [he,Int.sub_self,Bool.not_true,Bool.or_false,Bool.false_eq_true,if_false,if_true]
  ·unfold breakS
   rw [if_neg (by omega),if_pos hw,hrf]
theorem Full.first {S:Rs} {E:Nat} {B:Nat→Nat} (h:Full S E B):firstF S.es S.tk=(E:Int):=by
 have h1:=first_spec h.ri.ok S.tk
 rw [h.tk] at h1 ⊢
 obtain ⟨h2,h3,h4⟩:=h1
 rw [h.mem] at h3
 have h5:=of_decide_eq_false h3
 by_cases hc:firstF S.es 0<(E:Int)
 ·omega
 ·by_cases hd:(E:Int)<firstF S.es 0
  ·have:=h4 (E:Int) (by omega) hd
   rw [h.mem] at this
   have:=of_decide_eq_true this
   omega
  ·omega
theorem Full.ns {S:Rs} {E:Nat} {B:Nat→Nat} (h:Full S E B) (hE:E≤999):nS S 999=(E:Int):=by
 unfold nS readyS
 rw [h.br,h.first,h.top,h.tk]
 simp only [Bool.false_eq_true,if_false]
 omega
theorem Full.over {S:Rs} {E:Nat} {B:Nat→Nat} (h:Full S E B) (K:Nat→Nat):overS (takenS S (E:Int) K)=1:=by
 unfold overS takenS
 rw [h.br,h.en,h.tk,h.top]
 simp
theorem Full.seq {S:Rs} {b:List Nat} (h:Full S b.length (fun x=>b.getD x 0)):seqK S.K 0 b.length=b:=by
 apply List.ext_getElem?
 intro i
 by_cases hi:i<b.length
 ·rw [seqK_get _ _ _ _ hi,Nat.zero_add,h.ri.kept i (by rw [h.mem];exact decide_eq_true (by omega)) (by rw [h.tk];omega),List.getD_eq_getElem?_getD,List.getElem?_eq_getElem hi]
  rfl
 ·rw [List.getElem?_eq_none (by rw [seqK_len];omega),List.getElem?_eq_none (by omega)]
theorem RowO.take {w:World} {F:List Nat} {A:Option Addr} {bs:List Nat} (h:RowO w F A bs) (m:Nat) (hm:m≤bs.length):RowO w F A (bs.take m):=by
 have hl:(bs.take m).length=m:=by rw [List.length_take];omega
 refine ⟨?_,fun h0=>h.2 (by omega)⟩
 rw [hl,bv_tk]
 exact h.1.head m hm
theorem made0 (n:Nat):(madeCells #[Value.int .u8 0] n).toList=bv (List.replicate n 0):=by
 refine List.ext_getElem (by simp [madeCells,bv]) fun k h1 h2=>?_
 simp [madeCells,bv,Nat.mod_one]
end Go.Proofs.Ytoahkffdoaphlaa.Re
