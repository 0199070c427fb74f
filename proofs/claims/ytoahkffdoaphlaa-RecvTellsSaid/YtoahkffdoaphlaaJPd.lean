/- Joined texts. Conditions: as each theorem lists them. -/
import Derived.Test.YtoahkffdoaphlaaJVk
import Derived.Test.YtoahkffdoaphlaaJVc
import Derived.Test.YtoahkffdoaphlaaJVi
set_option linter.unusedSimpArgs false
set_option linter.unusedVariables false
set_option maxRecDepth 100000
set_option maxHeartbeats 80000000
namespace Go.Proofs.Ytoahkffdoaphlaa.Re
open Go Go.RowKit Go.Proofs.Ytoahkffdoaphlaa Go.Proofs.Ytoahkffdoaphlaa.Sp Go.Proofs.Ytoahkffdoaphlaa.Sp.Ref Go.Proofs.Ytoahkffdoaphlaa.Se Go.Maps
/-- The reference's stream is the program's. -/
structure Me (r:Rq) (s:Rs):Prop where
 es:r.es=s.es
 rm:r.rm=s.rm
 rd:r.rd=s.rd
 tl:r.tl=s.tl
 top:r.top=s.top
 en:r.en=if s.en=true then s.top else -1
 code:r.code=s.code
 sure:r.sure=s.sure
 br:r.br=s.br
 tk:r.tk=s.tk
 ri:RG s (fun x=>r.bl.getD x 0)
 bl:∀ x:Nat,mem s.es (x:Int)=true→x<r.bl.length
 bt:(r.bl.length:Int)≤s.top
/-- What the row of bytes is behind i bytes of b were laid. -/
structure LayP (bl:List Nat) (es:List Int) (off:Nat) (b:List Nat) (i:Nat) (bl':List Nat):Prop where
 get:∀ x:Nat,bl'.getD x 0=if (off≤x∧x<off+i)∧mem es (x:Int)=false then b.getD (x - off) 0 else bl.getD x 0
 len:bl.length≤bl'.length
 has:∀ x:Nat,off≤x→x<off+i→mem es (x:Int)=false→x<bl'.length
 top:bl'.length≤bl.length∨(0<i∧bl'.length≤off+i)
theorem LayP.zero (bl:List Nat) (es:List Int) (off:Nat) (b:List Nat):LayP bl es off b 0 bl :=
 ⟨fun x=>by rw [if_neg (by omega)],Nat.le_refl _,fun x h1 h2=>by omega,.inl (Nat.le_refl _)⟩
theorem LayP.skip {bl:List Nat} {es:List Int} {off i:Nat} {b bl':List Nat} (h:LayP bl es off b i bl') (hm:mem es ((off+i:Nat):Int)=true):LayP bl es off b (i+1) bl':=by
 refine ⟨fun x=>?_,h.len,fun x h1 h2 h3=>?_,by have:=h.top;omega⟩
 ·rw [h.get]
  by_cases e:x=off+i
  ·subst e;rw [if_neg (by omega),if_neg (fun hc=>by rw [hm] at hc;exact absurd hc.2 (by simp))]
  ·by_cases h1:(off≤x∧x<off+i)∧mem es (x:Int)=false
   ·rw [if_pos h1,if_pos ⟨by omega,h1.2⟩]
   ·rw [if_neg h1,if_neg (fun hc=>h1 ⟨by omega,hc.2⟩)]
 ·by_cases e:x=off+i
  ·subst e;rw [hm] at h3;cases h3
  ·exact h.has x h1 (by omega) h3
theorem LayP.lay {bl:List Nat} {es:List Int} {off i:Nat} {b bl':List Nat} (h:LayP bl es off b i bl') (hm:mem es ((off+i:Nat):Int)=false):LayP bl es off b (i+1) (layB bl' (off+i) (b.getD i 0)):=by
 refine ⟨fun x=>?_,by rw [layB_len];have:=h.len;omega,fun x h1 h2 h3=>?_,by rw [layB_len];have:=h.top;omega⟩
 ·rw [layB_get]
  by_cases e:x=off+i
  ·subst e;rw [if_pos rfl,if_pos ⟨by omega,hm⟩,Nat.add_sub_cancel_left]
  ·rw [if_neg e,h.get]
   by_cases h1:(off≤x∧x<off+i)∧mem es (x:Int)=false
   ·rw [if_pos h1,if_pos ⟨by omega,h1.2⟩]
   ·rw [if_neg h1,if_neg (fun hc=>h1 ⟨by omega,hc.2⟩)]
 ·rw [layB_len]
  by_cases e:x=off+i
  ·omega
  ·have:=h.has x h1 (by omega) h3;omega
/-- What Put leaves of the reference's. -/
def putR (r:Rq) (off:Int) (fin:Bool) (n:Nat) (bl:List Nat):Rq :=
 ⟨turn r.es off (off+n) true,r.rm,r.rd,r.tl,bl,if fin=true∨0<n then r.top+max 0 (off+n - r.top) else r.top,if fin=true then off+n else r.en,r.code,r.sure,r.br,r.tk,r.ov⟩
theorem Me.put {r:Rq} {s:Rs} (h:Me r s) (off:Nat) (fin:Bool) (b bl:List Nat) (hr:refuseS s ((off:Int)+(b.length:Int)) fin=0) (hl:LayP r.bl s.es off b b.length bl) :
  Me (putR r off fin b.length bl) (putS s (off:Int) fin b).2.2∧(putS s (off:Int) fin b).2.1=0∧(putS s (off:Int) fin b).1=if fin=true∨0<b.length then max 0 ((off:Int)+(b.length:Int) - r.top) else 0:=by
 obtain ⟨h1,h2,h3⟩:=refuse_zero hr
 have htl:=h.ri.tl
 have htp:=h.ri.top
 have hto:off+b.length≤4611686018427387903:=by omega
 have hR:=(h.ri.other (B':=fun x=>bl.getD x 0) (fun x hx=>by
  show bl.getD x 0=r.bl.getD x 0
  rw [hl.get,if_neg (fun hc=>by rw [hx] at hc;exact absurd hc.2 (by simp))])).put off fin b (fun i hi hm=>by
  show b.getD i 0=bl.getD (off+i) 0
  rw [hl.get,if_pos ⟨by omega,hm⟩,Nat.add_sub_cancel_left]) hr
 rw [put_form s off fin b hto hr] at hR ⊢
 have htt:=h.top
 have hfe:fin=true∨0<b.length↔¬ (b.length=0∧fin=false):=⟨fun h hc=>h.elim (fun e=>by rw [hc.2] at e;cases e) (fun e=>by omega),fun h=>by
  cases hf:fin with
  | true=>exact .inl rfl
  | false =>
    rcases Nat.eq_zero_or_pos b.length with h0 | h0
    ·exact absurd ⟨h0,hf⟩ h
    ·exact .inr h0⟩
 have hT:(if fin=true∨0<b.length then r.top+max 0 ((off:Int)+(b.length:Int) - r.top) else r.top)=topS s ((off:Int)+(b.length:Int)) fin b.length:=by
  unfold topS
  by_cases hc:b.length=0∧fin=false
  ·rw [if_pos hc,if_neg (fun hd=>hfe.1 hd hc),htt]
  ·rw [if_neg hc,if_pos (hfe.2 hc),htt];omega
 refine ⟨⟨?_,h.rm,h.rd,h.tl,hT,?_,h.code,h.sure,h.br,h.tk,hR.1,fun x hx=>?_,?_⟩,rfl,?_⟩
 ·show turn r.es _ _ true=turn s.es _ _ true
  rw [h.es]
 ·show (if fin=true then (off:Int)+(b.length:Int) else r.en)=if (s.en || fin)=true then topS s ((off:Int)+(b.length:Int)) fin b.length else -1
  cases fin with
  | true =>
    have h4:=h3 rfl
    rw [if_pos rfl,if_pos (by simp)]
    unfold topS
    rw [if_neg (fun hc=>absurd hc.2 (by simp))]
    omega
  | false =>
    rw [if_neg (by simp),h.en,Bool.or_false]
    by_cases he:s.en=true
    ·rw [if_pos he,if_pos he]
     have h4:=h2 he
     unfold topS
     split <;> omega
    ·rw [if_neg he,if_neg he]
 ·have hx2:=hR.2 (x:Int)
  rw [hx2] at hx
  show x<bl.length
  cases hm:mem s.es (x:Int) with
  | true=>have:=h.bl x hm;have:=hl.len;omega
  | false =>
    rw [hm] at hx
    simp only [Bool.or_false,decide_eq_true_eq] at hx
    exact hl.has x (by omega) (by omega) hm
 ·show (bl.length:Int)≤topS s ((off:Int)+(b.length:Int)) fin b.length
  have h4:=hl.top
  have h5:=h.bt
  unfold topS
  by_cases hc:b.length=0∧fin=false
  ·rw [if_pos hc]
   omega
  ·rw [if_neg hc]
   omega
 ·show topS s ((off:Int)+(b.length:Int)) fin b.length - s.top=_
  by_cases hc:fin=true∨0<b.length
  ·rw [if_pos hc] at hT ⊢;omega
  ·rw [if_neg hc] at hT ⊢;omega
section
variable {w w':World} {q:Nat} {F G:List Nat} {v0 v4 v:Value} {r r':Rq}
theorem rput_arg (h:RvIn w q G v0 v4 r) (off:Int) (fin:Bool) (N:Nat) (A:Option Addr) (c:Nat) (hoff:off<0∨off > 4611686018427387903 - (N:Int)) (hN:N≤140737488355328) :
  Calls Try.prog 44 #[.pointer (some ⟨q,0,none⟩),.int .i64 off,.bool fin,.slice A N c] w fun e w'=>e=.returned (.tuple #[.int .i64 0,.int .i64 1])∧RvTo w w' q G r:=by
 have HT:=Lib.hid (h.here (Below.refl _ _))
 have hw1:IntKind.i64.wrap (4611686018427387903 - (N:Int))=4611686018427387903 - (N:Int):=IntWalk.i64_in _ (by omega)
 clear h
 by_cases h0:off<0
 ·clear hoff
  go_enter Try.func44,Try.ntmps44
  go_wp2_with fail
  go_ret2
  exact ⟨rfl,HT.out⟩
 ·have h1:4611686018427387903 - (N:Int)<off:=by omega
  clear hoff
  go_enter Try.func44,Try.ntmps44
  go_wp2_with fail
  go_ret2
  exact ⟨rfl,HT.out⟩
/-- The numbers of the reference's stream lie where they are. -/
def RsOk (r:Rq):Prop:=r.es.length≤4398046511000∧0≤r.top∧r.top≤4611686018427387903
/-- What stands at a round of Put. -/
def RPutJ (w wr:World) (q:Nat) (G:List Nat) (r:Rq) (off:Nat) (b:List Nat) (i:Nat):Prop:=∃ bl1 G1 u0 u4,RvIn wr q G1 u0 u4 (withB r bl1)∧Kept G w wr∧(∀ k ∈ G1,k ∈ G∨w.heap.size≤k)∧LayP r.bl r.es off b i bl1
/-- Why the reference refuses. -/
def refR (tl tp en z:Int) (fin:Bool):Int:=if z > tl then 7 else if 0≤en∧z > en then 8 else if fin=true∧((0≤en∧z≠en)∨z<tp) then 8 else 0
theorem rput_ref (h:RvIn w q G v0 v4 r) (off:Int) (fin:Bool) (N:Nat) (A:Option Addr) (c:Nat) (h0:0≤off) (h1:off≤4611686018427387903 - (N:Int)) (hN:N≤140737488355328) (hr:refR r.tl r.top r.en (off+(N:Int)) fin≠0) :
  Calls Try.prog 44 #[.pointer (some ⟨q,0,none⟩),.int .i64 off,.bool fin,.slice A N c] w fun e w'=>e=.returned (.tuple #[.int .i64 0,.int .i64 (refR r.tl r.top r.en (off+(N:Int)) fin)])∧RvTo w w' q G r:=by
 have HT:=Lib.hid (h.here (Below.refl _ _))
 obtain ⟨_,_,_,hc3,_,hc5,hc6,_⟩:=h.cells
 have hw1:IntKind.i64.wrap (4611686018427387903 - (N:Int))=4611686018427387903 - (N:Int):=IntWalk.i64_in _ (by omega)
 obtain ⟨z,hz⟩:∃ z,off+(N:Int)=z:=⟨_,rfl⟩
 have hw2:IntKind.i64.wrap (off+(N:Int))=z:=by rw [← hz];exact IntWalk.i64_in _ (by omega)
 have hb1:¬ off<0:=by omega
 have hb2:¬ 4611686018427387903 - (N:Int)<off:=by omega
 obtain ⟨tl,htl⟩:∃ x,r.tl=x:=⟨_,rfl⟩
 obtain ⟨tp,htp⟩:∃ x,r.top=x:=⟨_,rfl⟩
 obtain ⟨en,hen⟩:∃ x,r.en=x:=⟨_,rfl⟩
 rw [htl] at hc3
 rw [htp] at hc5
 rw [hen] at hc6
 rw [hz,htl,htp,hen] at hr
 rw [hz,htl,htp,hen]
 unfold refR at hr ⊢
 clear h htl htp hen hz
 by_cases hd1:z > tl
 ·rw [if_pos hd1]
  have hd1':tl<z:=hd1
  clear hr
  go_enter Try.func44,Try.ntmps44
  go_wp2_with fail
  go_ret2
  exact ⟨rfl,HT.out⟩
 ·rw [if_neg hd1] at hr ⊢
  have hd1':¬ tl<z:=hd1
  by_cases hd2:0≤en∧z > en
  ·rw [if_pos hd2]
   obtain ⟨hd3,hd4⟩:=hd2
   have hd4':en<z:=hd4
   clear hr
   go_enter Try.func44,Try.ntmps44
   go_wp2_with fail
   go_ret2
   exact ⟨rfl,HT.out⟩
  ·rw [if_neg hd2] at hr ⊢
   by_cases hd5:fin=true∧((0≤en∧z≠en)∨z<tp)
   ·rw [if_pos hd5]
    obtain ⟨hfin,hd6⟩:=hd5
    subst hfin
    clear hr
    by_cases hd7:0≤en
    ·have hd8:¬ en<z:=fun hh=>hd2 ⟨hd7,hh⟩
     by_cases hd9:z=en
     ·have hd10:z<tp:=by omega
      have hd9b:(z == en)=true:=by simpa using hd9
      subst hd9
      clear hd2 hd6
      go_enter Try.func44,Try.ntmps44
      go_wp2_with fail
      go_ret2
      exact ⟨rfl,HT.out⟩
     ·have hd9b:(z == en)=false:=by simpa using hd9
      clear hd2 hd6
      go_enter Try.func44,Try.ntmps44
      go_wp2_with fail
      go_ret2
      exact ⟨rfl,HT.out⟩
    ·have hd10:z<tp:=by omega
     clear hd2 hd6
     go_enter Try.func44,Try.ntmps44
     go_wp2_with fail
     go_ret2
     exact ⟨rfl,HT.out⟩
   ·rw [if_neg hd5] at hr
    exact absurd rfl hr
theorem rput_ok (h:RvIn w q G v0 v4 r) (hi:RsOk r) (off:Nat) (fin:Bool) (b:List Nat) (A:Option Addr) (c:Nat) (hN:off+b.length≤225000000000000) (hlen:r.bl.length≤225000000000000)
  (hx:Rd w w.heap.size A b.length (bv b)) (hc:b.length≤c) (hA:0<b.length→∀ a,A=some a→a.block ∉ G) (hr:refR r.tl r.top r.en ((off:Int)+(b.length:Int)) fin=0) :
  Calls Try.prog 44 #[.pointer (some ⟨q,0,none⟩),.int .i64 (off:Int),.bool fin,.slice A b.length c] w fun e w'=>e=.returned (.tuple #[.int .i64 (if fin=true∨0<b.length then max 0 ((off:Int)+(b.length:Int) - r.top) else 0),.int .i64 0])∧∃ bl,LayP r.bl r.es off b b.length bl∧RvTo w w' q G (putR r off fin b.length bl):=by
 obtain ⟨_,_,_,hc3,_,hc5,hc6,_⟩:=h.cells
 obtain ⟨N,hNN⟩:∃ N,b.length=N:=⟨_,rfl⟩
 rw [hNN] at hN hx hc hA hr ⊢
 have hw1:IntKind.i64.wrap (4611686018427387903 - (N:Int))=4611686018427387903 - (N:Int):=IntWalk.i64_in _ (by omega)
 obtain ⟨z,hz⟩:∃ z,(off:Int)+(N:Int)=z:=⟨_,rfl⟩
 have hw2:IntKind.i64.wrap ((off:Int)+(N:Int))=z:=by rw [← hz];exact IntWalk.i64_in _ (by omega)
 have hb1:¬ (off:Int)<0:=by omega
 have hb2:¬ 4611686018427387903 - (N:Int)<(off:Int):=by omega
 obtain ⟨tl,htl⟩:∃ x,r.tl=x:=⟨_,rfl⟩
 obtain ⟨tp,htp⟩:∃ x,r.top=x:=⟨_,rfl⟩
 obtain ⟨en,hen⟩:∃ x,r.en=x:=⟨_,rfl⟩
 rw [htl] at hc3
 rw [htp] at hc5
 rw [hen] at hc6
 rw [hz,htl,htp,hen] at hr
 have hRR:¬ tl<z∧(0≤en→¬ en<z)∧(fin=true→0≤en→z=en)∧(fin=true→¬ z<tp):=by
  unfold refR at hr
  split at hr
  ·cases hr
  ·split at hr
   ·cases hr
   ·split at hr
    ·cases hr
    ·rename_i g1 g2 g3
     refine ⟨by omega,fun g4 g5=>g2 ⟨g4,g5⟩,fun g4 g5=>?_,fun g4 g5=>g3 ⟨g4,.inr g5⟩⟩
     by_cases g6:z=en
     ·exact g6
     ·exact absurd ⟨g4,.inl ⟨g5,g6⟩⟩ g3
 obtain ⟨hd1,hd2,hd3,hd4⟩:=hRR
 obtain ⟨Q,hQ⟩:∃ Q,(fun e w'=>e=Ending.returned (.tuple #[.int .i64 (if fin=true∨0<N then max 0 ((off:Int)+(N:Int) - r.top) else 0),.int .i64 0])∧∃ bl,LayP r.bl r.es off b N bl∧RvTo w w' q G (putR r off fin N bl))=Q:=⟨_,rfl⟩
 have HQ:=Lib.hid hQ
 rw [hQ]
 have HH:=Lib.hid h
 have HI:=Lib.hid hi
 have HX:=Lib.hid hx
 have HAF:=Lib.hid hA
 have HC:=Lib.hid hc
 have HZ:=Lib.hid hz
 have HTP:=Lib.hid htp
 have HEN:=Lib.hid hen
 have HNN:=Lib.hid hNN
 have HLEN:=Lib.hid hlen
 have HON:=Lib.hid hN
 have HD4:=Lib.hid hd4
 have hNI:(N:Int)≤(c:Int):=by omega
 clear h hi hx hA hc hz htl htp hen hNN hlen hr hQ
 cases fin
 ·clear hd3 hd4
  by_cases hd7:0≤en
  ·have hd8:=hd2 hd7
   clear hd2
   go_enter Try.func44,Try.ntmps44
   go_upto_region 9 with (fail)
   clear hc3 hc5 hc6
   go_wp2_with fail
   go_loopw [10] (fun v wr=>∃ i:Nat,i≤N∧v=.int .i64 (i:Int)∧Hid (RPutJ w wr q G r off b i)) (fun v _=>N - (intOf v).toNat)
   case atStart=>exact ⟨0,Nat.zero_le _,rfl,r.bl,G,v0,v4,HH.out,Kept.refl _ _,fun _ hk=>.inl hk,LayP.zero _ _ _ _⟩
   case round =>
    obtain ⟨i,hiN,rfl,HJ⟩:=hrel
    obtain ⟨bl1,G1,u0,u4,h1,hk1,hn1,hl1⟩:=HJ.out
    have HG1:=Lib.hid h1
    have HK1:=Lib.hid hk1
    have HN1:=Lib.hid hn1
    have HL1:=Lib.hid hl1
    clear h1 hk1 hn1 hl1 HJ
    by_cases hlt:i<N
    ·have hltI:(i:Int)<(N:Int):=by omega
     have HLT:Hid (i+1≤N):=hlt
     have hwi:IntKind.i64.wrap ((off:Int)+(i:Int))=((off+i:Nat):Int):=by rw [IntWalk.i64_in _ (by have:=HON.out;omega)];omega
     have hwn:IntKind.i64.wrap ((i:Int)+1)=((i+1:Nat):Int):=by rw [IntWalk.i64_in _ (by have:=HON.out;omega)];omega
     have HHAS:=Lib.hid (rhas_rv HG1.out (by have:=HI.out.1;show r.es.length≤_;omega) ((off+i:Nat):Int))
     obtain ⟨m,hm⟩:∃ x,mem r.es ((off+i:Nat):Int)=x:=⟨_,rfl⟩
     have hm':mem (withB r bl1).es ((off+i:Nat):Int)=m:=hm
     rw [hm'] at HHAS
     have HM:=Lib.hid hm
     clear hm hm'
     go_wp2_with fail
     refine HHAS.out.mono ?_
     rintro e' w2 ⟨rfl,hw2'⟩
     subst hw2'
     cases m
     ·obtain ⟨x,hx⟩:∃ x,b.getD i 0=x:=⟨_,rfl⟩
      have HRD:Hid (Rd w2 w2.heap.size A N (bv b)):=rd_kept HX.out HK1.out HAF.out
      obtain ⟨bA,oA,hA,hbA,hcs⟩:=HRD.out.2 (by omega)
      subst hA
      have hcx:w2.cell? ⟨bA,oA+i,none⟩=some (.int .u8 (x:Int)):=by
       refine hcs i _ ?_
       unfold bv
       rw [List.getElem?_map,List.getElem?_eq_getElem (show i<b.length by rw [HNN.out];omega)]
       rw [← hx,List.getD_eq_getElem?_getD,List.getElem?_eq_getElem (show i<b.length by rw [HNN.out];omega)]
       rfl
      have HLAY:=Lib.hid (rlay_rv HG1.out (off+i) x (by have:=HON.out;omega) (by have h3:=HL1.out.top;have h4:=HON.out;have h5:=HLEN.out;show bl1.length≤_;omega))
      have HXE:=Lib.hid hx
      clear hcs hx
      go_wp2_with fail
      refine HLAY.out.mono ?_
      rintro e' w3 ⟨rfl,ht3⟩
      have HJ3:Hid (RPutJ w w3 q G r off b (i+1)):=by
       have ht4:=RvTo.trans HK1.out HN1.out ht3
       obtain ⟨G2,a2,b2,k1,k2,k3⟩:=ht4
       have k4:=HL1.out.lay HM.out
       rw [HXE.out] at k4
       exact ⟨_,G2,a2,b2,k1,k2,k3,k4⟩
      clear ht3 HLAY hcx
      go_wp2_with fail
      go_roundw
      case rel=>exact ⟨i+1,HLT.out,rfl,HJ3⟩
      case measure=>have:=HLT.out;simp [intOf];omega
     ·have HJ3:Hid (RPutJ w w2 q G r off b (i+1)):=⟨bl1,G1,u0,u4,HG1.out,HK1.out,HN1.out,HL1.out.skip HM.out⟩
      go_wp2_with fail
      go_roundw
      case rel=>exact ⟨i+1,HLT.out,rfl,HJ3⟩
      case measure=>have:=HLT.out;simp [intOf];omega
    ·obtain rfl:i=N:=by omega
     have hltI:¬ (i:Int)<(i:Int):=by omega
     go_upto_region 14 with (fail)
     have HADD:=Lib.hid (radd_rv HG1.out (by have:=HI.out.1;show r.es.length≤_;omega) (off:Int) z)
     go_wp2_with fail
     refine HADD.out.mono ?_
     rintro e' w4 ⟨rfl,ht4⟩
     obtain ⟨G5,a5,b5,h5,hk5,hn5⟩:=RvTo.trans HK1.out HN1.out ht4
     have HG5:=Lib.hid h5
     have HK5:=Lib.hid hk5
     have HN5:=Lib.hid hn5
     clear h5 hk5 hn5 ht4 HADD
     by_cases hn0:0<i
     ·have hn0I:(0:Int)<(i:Int):=by omega
      have HG6:=HG5
      have HK6:=HK5
      have HRI:=Lib.hid (rrise_rv HG6.out (by have:=HI.out.2;exact this) z (by have:=HZ.out;have:=HON.out;omega))
      clear HG5
      go_wp2_with fail
      refine HRI.out.mono ?_
      rintro e' w7 ⟨rfl,ht7⟩
      have HT7:=Lib.hid (RvTo.trans HK6.out HN5.out ht7)
      clear ht7 HRI HG6
      go_wp2_with fail
      rw [← HQ.out]
      show _=_∧_
      have hcc:false=true∨0<i:=.inr hn0
      refine ⟨?_,bl1,HL1.out,?_⟩
      ·first
       | (rw [if_pos hcc,HZ.out];rfl)
       | (rw [HZ.out];rfl)
       | (show _=Ending.returned (.tuple #[.int .i64 (max 0 ((off:Int)+(i:Int) - r.top)),.int .i64 0]);rw [HZ.out];rfl)
       | (simp only [HZ.out];rfl)
      ·have e:putR r off false i bl1=⟨turn r.es off z true,r.rm,r.rd,r.tl,bl1,r.top+max 0 (z - r.top),r.en,r.code,r.sure,r.br,r.tk,r.ov⟩:=by unfold putR;rw [HZ.out,if_pos hcc];rfl
       rw [e]
       exact HT7.out
     ·obtain rfl:i=0:=by omega
      have hn0I:¬ (0:Int)<0:=by omega
      have HG6:=HG5
      have HK6:=HK5
      have HT7:Hid (RvTo w w4 q G ⟨turn r.es off z true,r.rm,r.rd,r.tl,bl1,r.top,r.en,r.code,r.sure,r.br,r.tk,r.ov⟩):=⟨G5,a5,b5,HG5.out,HK5.out,HN5.out⟩
      clear HG5 HG6
      go_wp2_with fail
      rw [← HQ.out]
      show _=_∧_
      have hcc:¬ (false=true∨0<0):=by simp
      refine ⟨?_,bl1,HL1.out,?_⟩
      ·rw [if_neg hcc]
       rfl
      ·have e:putR r off false 0 bl1=⟨turn r.es off z true,r.rm,r.rd,r.tl,bl1,r.top,r.en,r.code,r.sure,r.br,r.tk,r.ov⟩:=by unfold putR;rw [HZ.out,if_neg hcc];rfl
       rw [e]
       exact HT7.out
  ·clear hd2
   go_enter Try.func44,Try.ntmps44
   go_upto_region 9 with (fail)
   clear hc3 hc5 hc6
   go_wp2_with fail
   go_loopw [10] (fun v wr=>∃ i:Nat,i≤N∧v=.int .i64 (i:Int)∧Hid (RPutJ w wr q G r off b i)) (fun v _=>N - (intOf v).toNat)
   case atStart=>exact ⟨0,Nat.zero_le _,rfl,r.bl,G,v0,v4,HH.out,Kept.refl _ _,fun _ hk=>.inl hk,LayP.zero _ _ _ _⟩
   case round =>
    obtain ⟨i,hiN,rfl,HJ⟩:=hrel
    obtain ⟨bl1,G1,u0,u4,h1,hk1,hn1,hl1⟩:=HJ.out
    have HG1:=Lib.hid h1
    have HK1:=Lib.hid hk1
    have HN1:=Lib.hid hn1
    have HL1:=Lib.hid hl1
    clear h1 hk1 hn1 hl1 HJ
    by_cases hlt:i<N
    ·have hltI:(i:Int)<(N:Int):=by omega
     have HLT:Hid (i+1≤N):=hlt
     have hwi:IntKind.i64.wrap ((off:Int)+(i:Int))=((off+i:Nat):Int):=by rw [IntWalk.i64_in _ (by have:=HON.out;omega)];omega
     have hwn:IntKind.i64.wrap ((i:Int)+1)=((i+1:Nat):Int):=by rw [IntWalk.i64_in _ (by have:=HON.out;omega)];omega
     have HHAS:=Lib.hid (rhas_rv HG1.out (by have:=HI.out.1;show r.es.length≤_;omega) ((off+i:Nat):Int))
     obtain ⟨m,hm⟩:∃ x,mem r.es ((off+i:Nat):Int)=x:=⟨_,rfl⟩
     have hm':mem (withB r bl1).es ((off+i:Nat):Int)=m:=hm
     rw [hm'] at HHAS
     have HM:=Lib.hid hm
     clear hm hm'
     go_wp2_with fail
     refine HHAS.out.mono ?_
     rintro e' w2 ⟨rfl,hw2'⟩
     subst hw2'
     cases m
     ·obtain ⟨x,hx⟩:∃ x,b.getD i 0=x:=⟨_,rfl⟩
      have HRD:Hid (Rd w2 w2.heap.size A N (bv b)):=rd_kept HX.out HK1.out HAF.out
      obtain ⟨bA,oA,hA,hbA,hcs⟩:=HRD.out.2 (by omega)
      subst hA
      have hcx:w2.cell? ⟨bA,oA+i,none⟩=some (.int .u8 (x:Int)):=by
       refine hcs i _ ?_
       unfold bv
       rw [List.getElem?_map,List.getElem?_eq_getElem (show i<b.length by rw [HNN.out];omega)]
       rw [← hx,List.getD_eq_getElem?_getD,List.getElem?_eq_getElem (show i<b.length by rw [HNN.out];omega)]
       rfl
      have HLAY:=Lib.hid (rlay_rv HG1.out (off+i) x (by have:=HON.out;omega) (by have h3:=HL1.out.top;have h4:=HON.out;have h5:=HLEN.out;show bl1.length≤_;omega))
      have HXE:=Lib.hid hx
      clear hcs hx
      go_wp2_with fail
      refine HLAY.out.mono ?_
      rintro e' w3 ⟨rfl,ht3⟩
      have HJ3:Hid (RPutJ w w3 q G r off b (i+1)):=by
       have ht4:=RvTo.trans HK1.out HN1.out ht3
       obtain ⟨G2,a2,b2,k1,k2,k3⟩:=ht4
       have k4:=HL1.out.lay HM.out
       rw [HXE.out] at k4
       exact ⟨_,G2,a2,b2,k1,k2,k3,k4⟩
      clear ht3 HLAY hcx
      go_wp2_with fail
      go_roundw
      case rel=>exact ⟨i+1,HLT.out,rfl,HJ3⟩
      case measure=>have:=HLT.out;simp [intOf];omega
     ·have HJ3:Hid (RPutJ w w2 q G r off b (i+1)):=⟨bl1,G1,u0,u4,HG1.out,HK1.out,HN1.out,HL1.out.skip HM.out⟩
      go_wp2_with fail
      go_roundw
      case rel=>exact ⟨i+1,HLT.out,rfl,HJ3⟩
      case measure=>have:=HLT.out;simp [intOf];omega
    ·obtain rfl:i=N:=by omega
     have hltI:¬ (i:Int)<(i:Int):=by omega
     go_upto_region 14 with (fail)
     have HADD:=Lib.hid (radd_rv HG1.out (by have:=HI.out.1;show r.es.length≤_;omega) (off:Int) z)
     go_wp2_with fail
     refine HADD.out.mono ?_
     rintro e' w4 ⟨rfl,ht4⟩
     obtain ⟨G5,a5,b5,h5,hk5,hn5⟩:=RvTo.trans HK1.out HN1.out ht4
     have HG5:=Lib.hid h5
     have HK5:=Lib.hid hk5
     have HN5:=Lib.hid hn5
     clear h5 hk5 hn5 ht4 HADD
     by_cases hn0:0<i
     ·have hn0I:(0:Int)<(i:Int):=by omega
      have HG6:=HG5
      have HK6:=HK5
      have HRI:=Lib.hid (rrise_rv HG6.out (by have:=HI.out.2;exact this) z (by have:=HZ.out;have:=HON.out;omega))
      clear HG5
      go_wp2_with fail
      refine HRI.out.mono ?_
      rintro e' w7 ⟨rfl,ht7⟩
      have HT7:=Lib.hid (RvTo.trans HK6.out HN5.out ht7)
      clear ht7 HRI HG6
      go_wp2_with fail
      rw [← HQ.out]
      show _=_∧_
      have hcc:false=true∨0<i:=.inr hn0
      refine ⟨?_,bl1,HL1.out,?_⟩
      ·first
       | (rw [if_pos hcc,HZ.out];rfl)
       | (rw [HZ.out];rfl)
       | (show _=Ending.returned (.tuple #[.int .i64 (max 0 ((off:Int)+(i:Int) - r.top)),.int .i64 0]);rw [HZ.out];rfl)
       | (simp only [HZ.out];rfl)
      ·have e:putR r off false i bl1=⟨turn r.es off z true,r.rm,r.rd,r.tl,bl1,r.top+max 0 (z - r.top),r.en,r.code,r.sure,r.br,r.tk,r.ov⟩:=by unfold putR;rw [HZ.out,if_pos hcc];rfl
       rw [e]
       exact HT7.out
     ·obtain rfl:i=0:=by omega
      have hn0I:¬ (0:Int)<0:=by omega
      have HG6:=HG5
      have HK6:=HK5
      have HT7:Hid (RvTo w w4 q G ⟨turn r.es off z true,r.rm,r.rd,r.tl,bl1,r.top,r.en,r.code,r.sure,r.br,r.tk,r.ov⟩):=⟨G5,a5,b5,HG5.out,HK5.out,HN5.out⟩
      clear HG5 HG6
      go_wp2_with fail
      rw [← HQ.out]
      show _=_∧_
      have hcc:¬ (false=true∨0<0):=by simp
      refine ⟨?_,bl1,HL1.out,?_⟩
      ·rw [if_neg hcc]
       rfl
      ·have e:putR r off false 0 bl1=⟨turn r.es off z true,r.rm,r.rd,r.tl,bl1,r.top,r.en,r.code,r.sure,r.br,r.tk,r.ov⟩:=by unfold putR;rw [HZ.out,if_neg hcc];rfl
       rw [e]
       exact HT7.out
 ·have hd9:=hd4 rfl
  clear hd4
  by_cases hd7:0≤en
  ·have hd8:=hd2 hd7
   have hd10:=hd3 rfl hd7
   have hd10b:(z == en)=true:=by simpa using hd10
   clear hd2 hd3
   subst hd10
   go_enter Try.func44,Try.ntmps44
   go_upto_region 9 with (fail)
   clear hc3 hc5 hc6
   go_wp2_with fail
   go_loopw [10] (fun v wr=>∃ i:Nat,i≤N∧v=.int .i64 (i:Int)∧Hid (RPutJ w wr q G r off b i)) (fun v _=>N - (intOf v).toNat)
   case atStart=>exact ⟨0,Nat.zero_le _,rfl,r.bl,G,v0,v4,HH.out,Kept.refl _ _,fun _ hk=>.inl hk,LayP.zero _ _ _ _⟩
   case round =>
    obtain ⟨i,hiN,rfl,HJ⟩:=hrel
    obtain ⟨bl1,G1,u0,u4,h1,hk1,hn1,hl1⟩:=HJ.out
    have HG1:=Lib.hid h1
    have HK1:=Lib.hid hk1
    have HN1:=Lib.hid hn1
    have HL1:=Lib.hid hl1
    clear h1 hk1 hn1 hl1 HJ
    by_cases hlt:i<N
    ·have hltI:(i:Int)<(N:Int):=by omega
     have HLT:Hid (i+1≤N):=hlt
     have hwi:IntKind.i64.wrap ((off:Int)+(i:Int))=((off+i:Nat):Int):=by rw [IntWalk.i64_in _ (by have:=HON.out;omega)];omega
     have hwn:IntKind.i64.wrap ((i:Int)+1)=((i+1:Nat):Int):=by rw [IntWalk.i64_in _ (by have:=HON.out;omega)];omega
     have HHAS:=Lib.hid (rhas_rv HG1.out (by have:=HI.out.1;show r.es.length≤_;omega) ((off+i:Nat):Int))
     obtain ⟨m,hm⟩:∃ x,mem r.es ((off+i:Nat):Int)=x:=⟨_,rfl⟩
     have hm':mem (withB r bl1).es ((off+i:Nat):Int)=m:=hm
     rw [hm'] at HHAS
     have HM:=Lib.hid hm
     clear hm hm'
     go_wp2_with fail
     refine HHAS.out.mono ?_
     rintro e' w2 ⟨rfl,hw2'⟩
     subst hw2'
     cases m
     ·obtain ⟨x,hx⟩:∃ x,b.getD i 0=x:=⟨_,rfl⟩
      have HRD:Hid (Rd w2 w2.heap.size A N (bv b)):=rd_kept HX.out HK1.out HAF.out
      obtain ⟨bA,oA,hA,hbA,hcs⟩:=HRD.out.2 (by omega)
      subst hA
      have hcx:w2.cell? ⟨bA,oA+i,none⟩=some (.int .u8 (x:Int)):=by
       refine hcs i _ ?_
       unfold bv
       rw [List.getElem?_map,List.getElem?_eq_getElem (show i<b.length by rw [HNN.out];omega)]
       rw [← hx,List.getD_eq_getElem?_getD,List.getElem?_eq_getElem (show i<b.length by rw [HNN.out];omega)]
       rfl
      have HLAY:=Lib.hid (rlay_rv HG1.out (off+i) x (by have:=HON.out;omega) (by have h3:=HL1.out.top;have h4:=HON.out;have h5:=HLEN.out;show bl1.length≤_;omega))
      have HXE:=Lib.hid hx
      clear hcs hx
      go_wp2_with fail
      refine HLAY.out.mono ?_
      rintro e' w3 ⟨rfl,ht3⟩
      have HJ3:Hid (RPutJ w w3 q G r off b (i+1)):=by
       have ht4:=RvTo.trans HK1.out HN1.out ht3
       obtain ⟨G2,a2,b2,k1,k2,k3⟩:=ht4
       have k4:=HL1.out.lay HM.out
       rw [HXE.out] at k4
       exact ⟨_,G2,a2,b2,k1,k2,k3,k4⟩
      clear ht3 HLAY hcx
      go_wp2_with fail
      go_roundw
      case rel=>exact ⟨i+1,HLT.out,rfl,HJ3⟩
      case measure=>have:=HLT.out;simp [intOf];omega
     ·have HJ3:Hid (RPutJ w w2 q G r off b (i+1)):=⟨bl1,G1,u0,u4,HG1.out,HK1.out,HN1.out,HL1.out.skip HM.out⟩
      go_wp2_with fail
      go_roundw
      case rel=>exact ⟨i+1,HLT.out,rfl,HJ3⟩
      case measure=>have:=HLT.out;simp [intOf];omega
    ·obtain rfl:i=N:=by omega
     have hltI:¬ (i:Int)<(i:Int):=by omega
     go_upto_region 14 with (fail)
     have HADD:=Lib.hid (radd_rv HG1.out (by have:=HI.out.1;show r.es.length≤_;omega) (off:Int) z)
     go_wp2_with fail
     refine HADD.out.mono ?_
     rintro e' w4 ⟨rfl,ht4⟩
     obtain ⟨G5,a5,b5,h5,hk5,hn5⟩:=RvTo.trans HK1.out HN1.out ht4
     have HG5:=Lib.hid h5
     have HK5:=Lib.hid hk5
     have HN5:=Lib.hid hn5
     clear h5 hk5 hn5 ht4 HADD
     have f6:=HG5.out.free 6
     have c6:=HG5.out.cells.2.2.2.2.2.2.1
     have HG6:=Lib.hid (HG5.out.put ⟨turn r.es off z true,r.rm,r.rd,r.tl,bl1,r.top,z,r.code,r.sure,r.br,r.tk,r.ov⟩ 6 (.int .i64 z) rfl rfl rfl)
     have HK6:=Lib.hid (HK5.out.trans (HG5.out.kput 6 (.int .i64 z)) HN5.out)
     have HRI:=Lib.hid (rrise_rv HG6.out (by have:=HI.out.2;exact this) z (by have:=HZ.out;have:=HON.out;omega))
     clear HG5
     go_wp2_with fail
     refine HRI.out.mono ?_
     rintro e' w7 ⟨rfl,ht7⟩
     have HT7:=Lib.hid (RvTo.trans HK6.out HN5.out ht7)
     clear ht7 HRI HG6
     go_wp2_with fail
     rw [← HQ.out]
     show _=_∧_
     have hcc:true=true∨0<i:=.inl rfl
     refine ⟨?_,bl1,HL1.out,?_⟩
     ·first
      | (rw [if_pos hcc,HZ.out];rfl)
      | (rw [HZ.out];rfl)
      | (show _=Ending.returned (.tuple #[.int .i64 (max 0 ((off:Int)+(i:Int) - r.top)),.int .i64 0]);rw [HZ.out];rfl)
      | (simp only [HZ.out];rfl)
     ·have e:putR r off true i bl1=⟨turn r.es off z true,r.rm,r.rd,r.tl,bl1,r.top+max 0 (z - r.top),z,r.code,r.sure,r.br,r.tk,r.ov⟩:=by unfold putR;rw [HZ.out,if_pos hcc];rfl
      rw [e]
      exact HT7.out
  ·clear hd2 hd3
   go_enter Try.func44,Try.ntmps44
   go_upto_region 9 with (fail)
   clear hc3 hc5 hc6
   go_wp2_with fail
   go_loopw [10] (fun v wr=>∃ i:Nat,i≤N∧v=.int .i64 (i:Int)∧Hid (RPutJ w wr q G r off b i)) (fun v _=>N - (intOf v).toNat)
   case atStart=>exact ⟨0,Nat.zero_le _,rfl,r.bl,G,v0,v4,HH.out,Kept.refl _ _,fun _ hk=>.inl hk,LayP.zero _ _ _ _⟩
   case round =>
    obtain ⟨i,hiN,rfl,HJ⟩:=hrel
    obtain ⟨bl1,G1,u0,u4,h1,hk1,hn1,hl1⟩:=HJ.out
    have HG1:=Lib.hid h1
    have HK1:=Lib.hid hk1
    have HN1:=Lib.hid hn1
    have HL1:=Lib.hid hl1
    clear h1 hk1 hn1 hl1 HJ
    by_cases hlt:i<N
    ·have hltI:(i:Int)<(N:Int):=by omega
     have HLT:Hid (i+1≤N):=hlt
     have hwi:IntKind.i64.wrap ((off:Int)+(i:Int))=((off+i:Nat):Int):=by rw [IntWalk.i64_in _ (by have:=HON.out;omega)];omega
     have hwn:IntKind.i64.wrap ((i:Int)+1)=((i+1:Nat):Int):=by rw [IntWalk.i64_in _ (by have:=HON.out;omega)];omega
     have HHAS:=Lib.hid (rhas_rv HG1.out (by have:=HI.out.1;show r.es.length≤_;omega) ((off+i:Nat):Int))
     obtain ⟨m,hm⟩:∃ x,mem r.es ((off+i:Nat):Int)=x:=⟨_,rfl⟩
     have hm':mem (withB r bl1).es ((off+i:Nat):Int)=m:=hm
     rw [hm'] at HHAS
     have HM:=Lib.hid hm
     clear hm hm'
     go_wp2_with fail
     refine HHAS.out.mono ?_
     rintro e' w2 ⟨rfl,hw2'⟩
     subst hw2'
     cases m
     ·obtain ⟨x,hx⟩:∃ x,b.getD i 0=x:=⟨_,rfl⟩
      have HRD:Hid (Rd w2 w2.heap.size A N (bv b)):=rd_kept HX.out HK1.out HAF.out
      obtain ⟨bA,oA,hA,hbA,hcs⟩:=HRD.out.2 (by omega)
      subst hA
      have hcx:w2.cell? ⟨bA,oA+i,none⟩=some (.int .u8 (x:Int)):=by
       refine hcs i _ ?_
       unfold bv
       rw [List.getElem?_map,List.getElem?_eq_getElem (show i<b.length by rw [HNN.out];omega)]
       rw [← hx,List.getD_eq_getElem?_getD,List.getElem?_eq_getElem (show i<b.length by rw [HNN.out];omega)]
       rfl
      have HLAY:=Lib.hid (rlay_rv HG1.out (off+i) x (by have:=HON.out;omega) (by have h3:=HL1.out.top;have h4:=HON.out;have h5:=HLEN.out;show bl1.length≤_;omega))
      have HXE:=Lib.hid hx
      clear hcs hx
      go_wp2_with fail
      refine HLAY.out.mono ?_
      rintro e' w3 ⟨rfl,ht3⟩
      have HJ3:Hid (RPutJ w w3 q G r off b (i+1)):=by
       have ht4:=RvTo.trans HK1.out HN1.out ht3
       obtain ⟨G2,a2,b2,k1,k2,k3⟩:=ht4
       have k4:=HL1.out.lay HM.out
       rw [HXE.out] at k4
       exact ⟨_,G2,a2,b2,k1,k2,k3,k4⟩
      clear ht3 HLAY hcx
      go_wp2_with fail
      go_roundw
      case rel=>exact ⟨i+1,HLT.out,rfl,HJ3⟩
      case measure=>have:=HLT.out;simp [intOf];omega
     ·have HJ3:Hid (RPutJ w w2 q G r off b (i+1)):=⟨bl1,G1,u0,u4,HG1.out,HK1.out,HN1.out,HL1.out.skip HM.out⟩
      go_wp2_with fail
      go_roundw
      case rel=>exact ⟨i+1,HLT.out,rfl,HJ3⟩
      case measure=>have:=HLT.out;simp [intOf];omega
    ·obtain rfl:i=N:=by omega
     have hltI:¬ (i:Int)<(i:Int):=by omega
     go_upto_region 14 with (fail)
     have HADD:=Lib.hid (radd_rv HG1.out (by have:=HI.out.1;show r.es.length≤_;omega) (off:Int) z)
     go_wp2_with fail
     refine HADD.out.mono ?_
     rintro e' w4 ⟨rfl,ht4⟩
     obtain ⟨G5,a5,b5,h5,hk5,hn5⟩:=RvTo.trans HK1.out HN1.out ht4
     have HG5:=Lib.hid h5
     have HK5:=Lib.hid hk5
     have HN5:=Lib.hid hn5
     clear h5 hk5 hn5 ht4 HADD
     have f6:=HG5.out.free 6
     have c6:=HG5.out.cells.2.2.2.2.2.2.1
     have HG6:=Lib.hid (HG5.out.put ⟨turn r.es off z true,r.rm,r.rd,r.tl,bl1,r.top,z,r.code,r.sure,r.br,r.tk,r.ov⟩ 6 (.int .i64 z) rfl rfl rfl)
     have HK6:=Lib.hid (HK5.out.trans (HG5.out.kput 6 (.int .i64 z)) HN5.out)
     have HRI:=Lib.hid (rrise_rv HG6.out (by have:=HI.out.2;exact this) z (by have:=HZ.out;have:=HON.out;omega))
     clear HG5
     go_wp2_with fail
     refine HRI.out.mono ?_
     rintro e' w7 ⟨rfl,ht7⟩
     have HT7:=Lib.hid (RvTo.trans HK6.out HN5.out ht7)
     clear ht7 HRI HG6
     go_wp2_with fail
     rw [← HQ.out]
     show _=_∧_
     have hcc:true=true∨0<i:=.inl rfl
     refine ⟨?_,bl1,HL1.out,?_⟩
     ·first
      | (rw [if_pos hcc,HZ.out];rfl)
      | (rw [HZ.out];rfl)
      | (show _=Ending.returned (.tuple #[.int .i64 (max 0 ((off:Int)+(i:Int) - r.top)),.int .i64 0]);rw [HZ.out];rfl)
      | (simp only [HZ.out];rfl)
     ·have e:putR r off true i bl1=⟨turn r.es off z true,r.rm,r.rd,r.tl,bl1,r.top+max 0 (z - r.top),z,r.code,r.sure,r.br,r.tk,r.ov⟩:=by unfold putR;rw [HZ.out,if_pos hcc];rfl
      rw [e]
      exact HT7.out
theorem Me.ref {s:Rs} (hm:Me r s) (z:Int) (fin:Bool):refR r.tl r.top r.en z fin=refuseS s z fin:=by
 have htp:=hm.ri.top
 unfold refR refuseS
 rw [hm.tl,hm.top,hm.en]
 by_cases k1:z > s.tl
 ·rw [if_pos k1,if_pos k1]
 ·rw [if_neg k1,if_neg k1]
  simp only [Bool.or_eq_true,Bool.and_eq_true,decide_eq_true_eq]
  by_cases k2:s.en=true
  ·rw [if_pos k2]
   by_cases k3:z > s.top
   ·rw [if_pos ⟨by omega,k3⟩,if_pos (.inl ⟨k2,k3⟩)]
   ·rw [if_neg (fun hh=>k3 hh.2)]
    by_cases k4:fin=true∧z<s.top
    ·rw [if_pos ⟨k4.1,.inr k4.2⟩,if_pos (.inr k4)]
    ·rw [if_neg (fun hh=>k4 ⟨hh.1,by omega⟩),if_neg (fun hh=>hh.elim (fun h2=>k3 h2.2) k4)]
  ·rw [if_neg k2,if_neg (fun hh=>by omega)]
   by_cases k4:fin=true∧z<s.top
   ·rw [if_pos ⟨k4.1,.inr k4.2⟩,if_pos (.inr k4)]
   ·rw [if_neg (fun hh=>k4 ⟨hh.1,by omega⟩),if_neg (fun hh=>hh.elim (fun h2=>k2 h2.1) k4)]
/-- Put, whatever comes: as the program's. -/
theorem rput_rv {s:Rs} (h:RvIn w q G v0 v4 r) (hm:Me r s) (hfew:s.es.length≤4398046511000) (htl':s.tl≤225000000000000) (off:Int) (fin:Bool) (b:List Nat) (A:Option Addr) (c:Nat)
  (hx:Rd w w.heap.size A b.length (bv b)) (hc:b.length≤c) (hA:0<b.length→∀ a,A=some a→a.block ∉ G) (hbl:b.length≤140737488355328) :
  Calls Try.prog 44 #[.pointer (some ⟨q,0,none⟩),.int .i64 off,.bool fin,.slice A b.length c] w fun e w'=>e=.returned (.tuple #[.int .i64 (putS s off fin b).1,.int .i64 (putS s off fin b).2.1])∧∃ r',Me r' (putS s off fin b).2.2∧RvTo w w' q G r':=by
 by_cases h1:off<0∨off > 4611686018427387903 - (b.length:Int)
 ·have e:putS s off fin b=(0,1,s):=by unfold putS;rw [if_pos h1]
  rw [e]
  exact (rput_arg h off fin b.length A c h1 hbl).mono fun _ _ hh=>⟨hh.1,r,hm,hh.2⟩
 ·have hrr:=hm.ref (off+(b.length:Int)) fin
  by_cases h2:refuseS s (off+(b.length:Int)) fin=0
  ·obtain ⟨o,rfl⟩:∃ o:Nat,off=(o:Int):=⟨off.toNat,by omega⟩
   have h3:=refuse_zero h2
   have htl:=hm.ri.tl
   have htp:=hm.ri.top
   have hbt:=hm.bt
   refine (rput_ok h ⟨by rw [hm.es];exact hfew,by rw [hm.top];omega⟩ o fin b A c (by omega) (by omega) hx hc hA (by rw [hrr];exact h2)).mono ?_
   rintro e w' ⟨rfl,bl,hl,ht⟩
   rw [hm.es] at hl
   obtain ⟨g1,g2,g3⟩:=hm.put o fin b bl h2 hl
   exact ⟨by rw [g2,g3],_,g1,ht⟩
  ·have e:putS s off fin b=(0,refuseS s (off+(b.length:Int)) fin,s):=by unfold putS;rw [if_neg h1,if_pos h2]
   rw [e]
   have:=rput_ref h off fin b.length A c (by omega) (by omega) hbl (by rw [hrr];exact h2)
   rw [hrr] at this
   exact this.mono fun _ _ hh=>⟨hh.1,r,hm,hh.2⟩
end
end Go.Proofs.Ytoahkffdoaphlaa.Re
