/- Joined texts. Conditions: as each theorem lists them. -/
import Derived.Test.YtoahkffdoaphlaaJWb
import Derived.Deep.DeepAppendWide
import Derived.Test.YtoahkffdoaphlaaJVa
set_option linter.unusedSimpArgs false
set_option linter.unusedVariables false
set_option maxRecDepth 100000
set_option maxHeartbeats 80000000
namespace Go.Proofs.Ytoahkffdoaphlaa.Re
open Go Go.RowKit Go.Proofs.Ytoahkffdoaphlaa Go.Proofs.Ytoahkffdoaphlaa.Sp Go.Proofs.Ytoahkffdoaphlaa.Se
theorem app_wide_at {P:Program} (w:World) (base:Nat) (t ty e:TypeId) (i:TypeInfo) (z:Value) (size bytes:Nat) (ht:P.underlying t=some (.slice e)) (hi:P.info? e=some i) (hz:i.zero=some z) (hsize:i.size=size) (hby:i.bytes=bytes) (hzs:z.cells.size=size) (hsz:0<size)
  (v:Value) (n:Nat) (xs:List Value) (hown:w.ownsRow base e size v n xs) (B:Nat) (A:Option Addr) (m c:Nat) (news:List Value) (hx:Rd w B A (m * size) news) (h1:ones news) (h0:0<m)
  (h63:n+m≤maxLen) (hbytes:((n+m)+(n+m) / 4+192) * bytes≤281474976710656) (hbase:base≤w.heap.size) :
  ∃ v' w',(Builtin.append_ #[t,t] ty #[v,.slice A m c]).run P w=.ok v' w'∧w'.ownsRow base e size v' (n+m) (xs ++ news)∧w.grownBy w' v.ownBlock∧∀ k ∈ fp v',k ∈ fp v∨k=w.heap.size:=by
 obtain ⟨b,off,rfl,_,hc⟩:=hx.2 (Nat.mul_pos h0 hsz)
 have hnews:∀ j u,news[j]?=some u→w.cell? ((⟨b,off,none⟩:Addr).add j)=some u:=fun j u hu=>by rw [Addr.add_lit];exact hc j u hu
 obtain ⟨v',w',hr,h2,h3,_⟩:=run_append_own_wide (P:=P) w base t ty e i z size bytes ht hi hz hsize hby hzs hsz v n xs hown ⟨b,off,none⟩ m c news hx.1 hnews h1 h63 hbytes hbase
 refine ⟨v',w',hr,h2,h3,fun k hk=>?_⟩
 subst hsize hby
 have hsmall:n+m≤9223372036854775807:=by simp only [maxLen] at h63;omega
 rcases hown.2 with ⟨rfl,rfl⟩ | ⟨g,cap,cur,rfl,hbg,hg,hnc,hcm,hcs,htake⟩
 ·have hr2:=run_append_nil (P:=P) w t ty e i z ht hi hz ⟨b,off,none⟩ m c news hx.1 hnews (by omega) (by omega) (by have hb:=hbytes;simp only [Nat.zero_add] at hb;exact Nat.le_trans (Nat.mul_le_mul_right _ (by omega)) hb)
  rw [hr] at hr2
  cases hr2
  refine .inr ?_
  simpa [fp] using hk
 ·by_cases hroom:n+m≤cap
  ·have hfit:n * i.size+news.length≤cur.size:=by rw [hx.1,hcs,← Nat.add_mul];exact Nat.mul_le_mul_right _ hroom
   have hr2:=run_append_room (P:=P) w t ty e i ht hi g n cap cur hg ⟨b,off,none⟩ m c news hx.1 hnews h1 hroom hfit
   rw [hr] at hr2
   cases hr2
   refine .inl ?_
   simpa [fp] using hk
  ·have holds:∀ j u,xs[j]?=some u→w.cell? ((⟨g,0,none⟩:Addr).add j)=some u:=hown.cells (g:=g) rfl
   have hr2:=run_append_grow (P:=P) w t ty e i z ht hi hz ⟨g,0,none⟩ n cap xs hown.1 holds ⟨b,off,none⟩ m c news hx.1 hnews (by omega) (by omega) (growslice_fits_wide (by omega) hbytes)
   rw [hr] at hr2
   cases hr2
   refine .inr ?_
   simpa [fp] using hk
theorem wpList_wide_at {P:Program} (w:World) {ops:Array Oper} {rest:List Oper} {o:Oper} {a:Act} {Q:Exit→Act→World→Prop} (hgd:o.guard=none) (s x:Operand) (t:TypeId)
  (ho:o.op=.call { callee:=.builtin .append,args:=#[s,x],argTypes:=#[t,t] })
  (base:Nat) (e:TypeId) (i:TypeInfo) (z:Value) (size bytes:Nat) (ht:P.underlying t=some (.slice e)) (hi:P.info? e=some i) (hz:i.zero=some z) (hsize:i.size=size) (hby:i.bytes=bytes) (hzs:z.cells.size=size) (hsz:0<size)
  (v:Value) (n:Nat) (xs:List Value) (hs:a.eval s=v) (hown:w.ownsRow base e size v n xs) (B:Nat) (A:Option Addr) (m c:Nat) (news:List Value) (hxv:a.eval x=.slice A m c) (hx:Rd w B A (m * size) news) (h1:ones news) (h0:0<m)
  (h63:n+m≤maxLen) (hbytes:((n+m)+(n+m) / 4+192) * bytes≤281474976710656) (hbase:base≤w.heap.size)
  (h:∀ v' w',w'.ownsRow base e size v' (n+m) (xs ++ news)→w.grownBy w' v.ownBlock→(∀ k ∈ fp v',k ∈ fp v∨k=w.heap.size)→wpList P ops Q rest (a.put o.dst v') w'):wpList P ops Q (o :: rest) a w :=
 wpList_plain hgd fun K hK=>by
  obtain ⟨v',w',hr,h2,h3,h4⟩:=app_wide_at (P:=P) w base t o.type e i z size bytes ht hi hz hsize hby hzs hsz v n xs hown B A m c news hx h1 h0 h63 hbytes hbase
  unfold Oper.wp execOp
  simp only [ho,resolve,invoke,builtin,Sem.run_bind,Sem.run_pure,Result.andThen_ok,List.map_toArray,List.map_cons,List.map_nil,hs,hxv,hr]
  exact hK _ _ (h v' w' h2 h3 h4)
end Go.Proofs.Ytoahkffdoaphlaa.Re
namespace Go.Proofs.Ytoahkffdoaphlaa.Re
open Go Go.RowKit Go.Proofs.Ytoahkffdoaphlaa Go.Proofs.Ytoahkffdoaphlaa.Sp Go.Proofs.Ytoahkffdoaphlaa.Sp.Ref Go.Proofs.Ytoahkffdoaphlaa.Se Go.Maps
def layB (bl:List Nat) (k x:Nat):List Nat:=(bl ++ List.replicate (k+1 - bl.length) 0).set k x
def withB (r:Rq) (bl:List Nat):Rq:=⟨r.es,r.rm,r.rd,r.tl,bl,r.top,r.en,r.code,r.sure,r.br,r.tk,r.ov⟩
def lenB (w:World) (q:Nat):Nat:=match w.cell? ⟨q,4,none⟩ with
 | some (.slice _ n _)=>n
 | _=>0
theorem layB_len (bl:List Nat) (k x:Nat):(layB bl k x).length=max bl.length (k+1):=by
 unfold layB
 rw [List.length_set,List.length_append,List.length_replicate]
 omega
theorem layB_get (bl:List Nat) (k x y:Nat):(layB bl k x).getD y 0=if y=k then x else bl.getD y 0:=by
 unfold layB
 simp only [List.getD_eq_getElem?_getD]
 by_cases e:y=k
 ·subst e
  rw [if_pos rfl,List.getElem?_set_self (by rw [List.length_append,List.length_replicate];omega)]
  rfl
 ·rw [if_neg e,List.getElem?_set_ne (fun h=>e h.symm)]
  by_cases hl:y<bl.length
  ·rw [List.getElem?_append_left hl]
  ·rw [List.getElem?_append_right (by omega),List.getElem?_replicate,List.getElem?_eq_none (by omega)]
   split <;> rfl
section
variable {w w':World} {q:Nat} {F G:List Nat} {v0 v4 v:Value} {r r':Rq}
theorem RvIn.lenB (h:RvIn w q G v0 v4 r):Re.lenB w q=r.bl.length:=by
 obtain ⟨A,c,rfl,_⟩:=own_form h.row
 unfold Re.lenB
 rw [h.cells.2.2.2.2.1]
theorem rlay_rv (h:RvIn w q G v0 v4 r) (k x:Nat) (hk:k≤225000000000000) (hl:r.bl.length≤225000000000000) :
  Calls Try.prog 93 #[.pointer (some ⟨q,0,none⟩),.int .i64 (k:Int),.int .u8 x] w fun e w'=>e=.returned (.tuple #[])∧RvTo w w' q G (withB r (layB r.bl k x)):=by
 obtain ⟨i0,hi,hz0,hz1,hz2⟩:=info_parts infoB
 have HI0:=Lib.hid (And.intro hi (And.intro hz0 (And.intro hz1 hz2)))
 have HJ0:Hid (RvTo w w q G (withB r (r.bl ++ List.replicate 0 0))):=by
  rw [List.replicate_zero,List.append_nil]
  exact h.here (Below.refl _ _)
 clear h hi hz0 hz1 hz2
 go_enter Try.func93,Try.ntmps93
 go_wp2_with fail
 go_loopw [] (fun wr=>∃ m:Nat,m≤k+1 - r.bl.length∧Hid (RvTo w wr q G (withB r (r.bl ++ List.replicate m 0)))) (fun wr=>k+1 - lenB wr q)
 case atStart=>exact ⟨0,Nat.zero_le _,HJ0⟩
 case round =>
  clear HJ0
  obtain ⟨m,hm,HJ⟩:=hrel
  obtain ⟨G1,u0,u4,h1,hk1,hn1⟩:=HJ.out
  have hlb:=h1.lenB
  obtain ⟨A4,c4,e4,hc4,_,_,hrd4⟩:=own_form h1.row
  obtain ⟨n4,hn4⟩:∃ z,(withB r (r.bl ++ List.replicate m 0)).bl.length=z:=⟨_,rfl⟩
  have hn5:n4=r.bl.length+m:=by rw [← hn4];show (r.bl ++ List.replicate m 0).length=_;rw [List.length_append,List.length_replicate]
  rw [hn4] at e4 hc4 hlb hrd4
  have HN5:=Lib.hid hn5
  subst e4
  have g4:=h1.cells.2.2.2.2.1
  have H1:=Lib.hid h1
  have HK1:=Lib.hid hk1
  have HN1:=Lib.hid hn1
  have HLB:=Lib.hid hlb
  have HRD:=Lib.hid hrd4
  have HN4:=Lib.hid hn4
  clear h1 hk1 hn1 HJ hlb hrd4 hn4
  have hn4I:(n4:Int)≤450000000000002:=by omega
  clear hn5
  by_cases hlt:n4≤k
  ·have hltI:(n4:Int)≤(k:Int):=by omega
   have hd1:Hid (Rd (wr.alloc (.cells #[.int .u8 0] 5)) (wr.heap.size+1) (some ⟨wr.heap.size,0,none⟩) (1 * 1) (bv [0])):=rd_new _ _ _ _ _ _ _ rfl (by omega) rfl rfl
   have hd2:Hid (n4+1≤maxLen∧((n4+1)+(n4+1) / 4+192) * 1≤281474976710656):=⟨by unfold maxLen;omega,by omega⟩
   have HA:=Lib.hid (H1.out.below ((Below.refl _ _).alloc (Nat.le_refl _) (.cells #[.int .u8 0] 5)))
   have HQ:Hid ((wr.alloc (.cells #[.int .u8 0] 5)).ownsRow 0 5 1 (.slice A4 n4 c4) n4 (bv (r.bl ++ List.replicate m 0))):=by have:=HA.out.row;rw [HN4.out] at this;exact this
   go_wp2_with (at_builtin;(refine wpList_wide_at _ rfl (.tmp 17) (.tmp 18) 30 rfl 0 5 i0 _ 1 1 Try.underlying30 HI0.out.1 HI0.out.2.1 HI0.out.2.2.1 HI0.out.2.2.2 rfl (by decide) (.slice A4 n4 c4) n4 (bv (r.bl ++ List.replicate m 0)) (by kernel_rfl) HQ.out (wr.heap.size+1) (some ⟨wr.heap.size,0,none⟩) 1 1 (bv [0]) (by kernel_rfl) hd1.out (ones_bv _) Nat.one_pos hd2.out.1 hd2.out.2 (Nat.zero_le _) ?_))
   intro v6 w6 ho6 hg6 hn6
   obtain ⟨A6,c6,e6,_⟩:=own_form ho6
   subst e6
   have hq6:=(hg6.block q (HA.out.hG q HA.out.pG) (fun e=>HA.out.q4 (fp_own.2 e.symm))).trans HA.out.hp
   have f4:=free_slot (o:=4) hq6
   have c46:=cell_slot (o:=4) hq6 rfl
   have hT:RvTo (wr.alloc (.cells #[.int .u8 0] 5)) (w6.setCell ⟨q,4,none⟩ (.slice A6 (n4+1) c6)) q G1 (withB r (r.bl ++ List.replicate (m+1) 0)):=by
    refine HA.out.toRow hg6 ?_ (fun k hk'=>by simpa using hn6 k hk')
    have e1:(r.bl ++ List.replicate (m+1) 0)=(r.bl ++ List.replicate m 0) ++ [0]:=by rw [List.append_assoc,List.replicate_succ']
    have e2:(r.bl ++ List.replicate (m+1) 0).length=n4+1:=by rw [List.length_append,List.length_replicate];have:=HN5.out;omega
    rw [e2,e1,bv_app]
    exact ho6
   have HT:Hid (RvTo w (w6.setCell ⟨q,4,none⟩ (.slice A6 (n4+1) c6)) q G (withB r (r.bl ++ List.replicate (m+1) 0))):=RvTo.trans (HK1.out.then (Kept.ofBelow _ ((Below.refl _ _).alloc (Nat.le_refl _) _))) (fun k' hk'=>HN1.out k' hk') hT
   have HL6:Hid (lenB (w6.setCell ⟨q,4,none⟩ (.slice A6 (n4+1) c6)) q=n4+1):=by
    obtain ⟨G7,a7,b7,h7,_⟩:=HT.out
    rw [h7.lenB]
    show (r.bl ++ List.replicate (m+1) 0).length=_
    rw [List.length_append,List.length_replicate];have:=HN5.out;omega
   clear ho6 hg6 hn6 hT
   go_wp2_with fail
   go_roundw
   case rel=>exact ⟨m+1,by have:=HN5.out;omega,HT⟩
   case measure=>rw [HL6.out,HLB.out];omega
  ·have hltI:¬ (n4:Int)≤(k:Int):=by omega
   have hm1:Hid (m=k+1 - r.bl.length):=by have:=HN5.out;exact (by omega:m=k+1 - r.bl.length)
   have hltJ:(k:Int)<(n4:Int):=by omega
   obtain ⟨b,o,hA,hbw,hcs⟩:=HRD.out.2 (by omega)
   subst hA
   obtain ⟨ho,hfr,hT⟩:=H1.out.setB rfl k x
   subst ho
   obtain ⟨u,hu⟩:∃ u,wr.cell? ⟨b,k,none⟩=some u:=by
    have hlen:k<(bv (withB r (r.bl ++ List.replicate m 0)).bl).length:=by rw [bv,List.length_map,HN4.out];omega
    have:=hcs k _ (List.getElem?_eq_getElem hlen)
    rw [Nat.zero_add] at this
    exact ⟨_,this⟩
   have HT:Hid (RvTo w (wr.setCell ⟨b,k,none⟩ (.int .u8 x)) q G (withB r (layB r.bl k x))):=by
    have:=RvTo.trans HK1.out HN1.out hT
    unfold layB
    rw [← hm1.out]
    exact this
   clear hcs hT
   go_wp2_with fail
   go_end0
   exact ⟨rfl,HT.out⟩
end
end Go.Proofs.Ytoahkffdoaphlaa.Re
