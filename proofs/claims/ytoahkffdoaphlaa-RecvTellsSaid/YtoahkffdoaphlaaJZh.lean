/- Joined texts. Conditions: as each theorem lists them. -/
import Derived.Test.YtoahkffdoaphlaaJZg
set_option linter.unusedSimpArgs false
set_option linter.unusedVariables false
set_option maxRecDepth 100000
set_option maxHeartbeats 80000000
namespace Go.Proofs.Ytoahkffdoaphlaa.Re
open Go Go.RowKit Go.Proofs.Ytoahkffdoaphlaa Go.Proofs.Ytoahkffdoaphlaa.Sp Go.Proofs.Ytoahkffdoaphlaa.Se Go.Maps
theorem ready_in {s:Rs} (hk:RsNum s) (ho:Ok s.es):s.tk≤readyS s∧readyS s≤s.top:=by
 have h1:=(first_spec ho s.tk).1
 have h2:=hk.tk
 unfold readyS
 split <;> omega
theorem nS_in {s:Rs} (hk:RsNum s) (ho:Ok s.es) (most:Int):0≤nS s most∧nS s most≤1048576∧s.tk+nS s most≤s.top:=by
 have h1:=ready_in hk ho
 unfold nS
 omega
theorem own_low {w:World} {base base' e size n:Nat} {v:Value} {xs:List Value} (h:w.ownsRow base e size v n xs) (hb:base'≤base):w.ownsRow base' e size v n xs :=
 ⟨h.1,h.2.imp id fun ⟨g,cap,cur,e1,h1,r⟩=>⟨g,cap,cur,e1,Nat.le_trans hb h1,r⟩⟩
/-- What Take leaves. -/
def TakeP (w:World) (p:Nat) (F:List Nat) (n:Nat) (s:Rs) (m t:Nat) (e:Ending) (w':World):Prop :=
 ∃ A c K' F' v0' v4',e=.returned (.tuple #[.slice A m c,.int .i64 (overS (takenS s m K')),.int .i64 (if overS (takenS s m K')=2 then s.code else 0)]) ∧
   RcIn w' p F' v0' v4' n (takenS s m K')∧Kept F w w'∧(∀ k ∈ F',k ∈ F∨w.heap.size≤k)∧w'.ownsRow w.heap.size 5 1 (.slice A m c) m (bv (seqK s.K t m))∧(∀ k ∈ fp (.slice A m c),k ∉ F')∧∀ x,t+m≤x→K' x=s.K x
section
variable {w w':World} {p:Nat} {F:List Nat} {v0 v4:Value} {n:Nat} {s:Rs}
theorem take_rc (h:RcIn w p F v0 v4 n s) (hk:RsNum s) (hrd:0≤s.rd∧s.rd≤1152921504606846976) (most:Int) (m t:Nat) (hm:nS s most=(m:Int)) (ht:s.tk=(t:Int)) :
  Calls Try.prog 35 #[.pointer (some ⟨p,0,none⟩),.int .i64 most] w (TakeP w p F n s m t):=by
 have hin:=nS_in hk h.set.1 most
 have hri:=ready_in hk h.set.1
 have htop:=hk.top
 rw [hm,ht] at hin
 have HRY:=Lib.hid (fun q=>ready_rc (h.drewN q) (by have:=hk.len;omega) (by have:=hk.tk;omega))
 obtain ⟨ry,hry⟩:∃ x,readyS s=x:=⟨_,rfl⟩
 obtain ⟨mx,hmx⟩:∃ x,max most 0=x:=⟨_,rfl⟩
 have hmm:min (min mx 1048576) (ry - (t:Int))=(m:Int):=by
  rw [← hm,← hmx,← hry,← ht];rfl
 rw [hry] at HRY hri
 rw [ht] at hri
 have hwr:IntKind.i64.wrap (ry - (t:Int))=ry - (t:Int):=IntWalk.i64_in _ (by omega)
 obtain ⟨rt,hrt⟩:∃ x,ry - (t:Int)=x:=⟨_,rfl⟩
 rw [hrt] at hmm hwr
 have hmin3:∀ (ts:Array TypeId) (tt:TypeId) (W:World),(Builtin.min_ ts tt #[.int .i64 mx,.int .i64 1048576,.int .i64 rt]).run Try.prog W=.ok (.int .i64 (m:Int)) W:=fun ts tt W=>by
  rw [run_min_int3]
  congr 2
  omega
 have hwa:IntKind.i64.wrap ((t:Int)+(m:Int))=((t+m:Nat):Int):=by rw [IntWalk.i64_in _ (by omega)];omega
 obtain ⟨_,_,_,_,hc4,_,hc6,_⟩:=h.cells
 rw [ht] at hc6
 have HH:=Lib.hid h
 have HK:=Lib.hid hk
 have HRD:=Lib.hid hrd
 have HT:=Lib.hid ht
 have HIN:=Lib.hid hin
 obtain ⟨Q,hQ⟩:∃ Q,TakeP w p F n s m t=Q:=⟨_,rfl⟩
 have HQ:Hid (∀ e w',TakeP w p F n s m t e w'→Q e w'):=fun e w' hq=>by rw [← hQ];exact hq
 have htm:t+m≤4611686018427387903:=by omega
 have hm2:m≤1048576:=by omega
 rw [hQ]
 clear h hk hrd hm ht hin hri htop hry hQ hmm
 go_enter Try.func35,Try.ntmps35
 go_upto_region 1 with (fail)
 go_quiet ((go_at_call 80;exact Calls.quiet_of (HRY.out _)))
 obtain ⟨w1,hw1⟩:∃ x,w.drewN nq=x:=⟨_,rfl⟩
 have HH1:Hid (RcIn w1 p F v0 v4 n s):=by rw [← hw1];exact HH.out.drewN nq
 have HB1:Hid (Below w.heap.size w w1):=by rw [← hw1];exact ⟨rfl,rfl,rfl,Nat.le_refl _,fun _ _=>rfl⟩
 rw [hw1]
 clear hw1 HRY hc4 hc6
 go_upto_region 2 with (fail)
 refine still_tail 14 (by kernel_rfl) (by kernel_rfl) ?_
 intro wz hwz
 have hwz2:wz=w1.drewN 1:=hwz
 have HHZ:Hid (RcIn wz p F v0 v4 n s):=by rw [hwz2];exact HH1.out.drewN 1
 have HBZ:Hid (Below w.heap.size w wz):=by rw [hwz2];exact ⟨HB1.out.os,HB1.out.tape,HB1.out.output,HB1.out.size,HB1.out.block⟩
 clear hwz hwz2 HH1 HB1
 obtain ⟨_,_,_,_,hc4,_,hc6,_⟩:=HHZ.out.cells
 rw [HT.out] at hc6
 simp only [List.take_succ_cons,List.take_zero,List.drop_succ_cons,List.drop_zero]
 iterate 14 still_step
 refine wpStill_nil ?_
 have HTK:=Lib.hid (take_kp HHZ.out.kp t m htm hm2)
 go_wp2_with fail
 refine HTK.out.mono ?_
 rintro e w3 ⟨A,c,rfl,hJ⟩
 have hsf:∀ k ∈ fp (.slice A m c),wz.heap.size≤k:=fun k hk=>(hJ.own.lt k (fp_own.1 hk)).1
 obtain ⟨K',hkp',hKe⟩:=hJ.kp
 have hR3:RcIn w3 p F v0 v4 n (withK s K'):=by
  have hh:=HHZ.out
  exact ⟨(hJ.kept.block p (hh.hF p hh.pF) hh.pm).trans hh.hp,fun k hk=>Nat.lt_of_lt_of_le (hh.hF k hk) hJ.kept.size,hh.pF,hh.set.kept hJ.kept (set_not_map hh.set hh.kp),hkp',hh.f0,hh.f4⟩
 have HR3:=Lib.hid hR3
 have HO3:=Lib.hid hJ.own
 have HK3:Hid (Kept F wz w3):=hJ.kept.more HHZ.out.f4
 have HSF:=Lib.hid hsf
 have HKE:=Lib.hid hKe
 clear hJ hsf hkp' hKe hR3 HTK hc4 hc6
 obtain ⟨_,_,hc2,_,_,_,hc6,_⟩:=HR3.out.cells
 have hc6':w3.cell? ⟨p,6,none⟩=some (.int .i64 (t:Int)):=by rw [← HT.out];exact hc6
 have hf6:=HR3.out.free 6
 clear hc6
 obtain ⟨w4,hw4⟩:∃ x,w3.setCell ⟨p,6,none⟩ (.int .i64 ((t:Int)+(m:Int)))=x:=⟨_,rfl⟩
 have HR4:Hid (RcIn w4 p F v0 v4 n ⟨s.es,s.rm,s.rd,s.tl,s.top,s.tk+(m:Int),s.en,s.br,s.code,s.sure,K'⟩):=by
  have h1:=HR3.out.put ⟨s.es,s.rm,s.rd,s.tl,s.top,s.tk+(m:Int),s.en,s.br,s.code,s.sure,K'⟩ 6 (.int .i64 (s.tk+(m:Int))) rfl rfl rfl
  rw [← hw4]
  rw [← HT.out]
  exact h1
 have HKP4:Hid (Kept [p] w3 w4):=by rw [← hw4];exact kept_put w3 (F:=[p]) (by simp) 6 _
 have HPN:Hid (∀ k ∈ fp (.slice A m c),k≠p∧k ∉ F):=fun k hk=>⟨fun e=>by have h1:=HSF.out k hk;have h2:=HHZ.out.hF p HHZ.out.pF;omega,fun hm=>by have h1:=HSF.out k hk;have h2:=HHZ.out.hF k hm;omega⟩
 have HO4:=Lib.hid (own_kept HO3.out HKP4.out (fun k hk=>by simpa using (HPN.out k hk).1))
 go_upto_region 4 with (fail)
 have HEA:=Lib.hid (Cr.eat_any HR4.out.gr (by have:=HRD.out;show 0≤s.rd∧s.rd≤_;omega) (m:Int))
 clear hw4 hc6' hf6 hc2
 go_wp2_with fail
 refine HEA.out.mono ?_
 rintro e w5 ⟨rfl,hg5⟩
 have hg5':w4.grownBy w5 (some p):=by obtain ⟨_,_,_,h⟩:=hg5;exact h
 have hT5:=HR4.out.toGr hg5
 obtain ⟨F5,v05,v45,hR5,hk5,hn5⟩:=hT5
 have HR5:Hid (RcIn w5 p F5 v05 v45 n (takenS s m K')):=hR5
 have HO5:=Lib.hid (own_kept HO4.out (Kept.ofGrown (F:=[p]) hg5' (by simp)) (fun k hk=>by simpa using (HPN.out k hk).1))
 have HK5:Hid (Kept F w w5):=(((Kept.ofBelow F HBZ.out).then HK3.out).then (HKP4.out.more (fun i hi=>by simp at hi;exact hi ▸ HHZ.out.pF))).then hk5
 have HN5:Hid (∀ k ∈ F5,k ∈ F∨w.heap.size≤k):=fun k hk=>(hn5 k hk).imp id fun h=>Nat.le_trans (Nat.le_trans HBZ.out.size (Nat.le_trans HK3.out.size HKP4.out.size)) h
 have HD5:Hid (∀ k ∈ fp (.slice A m c),k ∉ F5):=fun k hk hm=>by
  rcases hn5 k hm with h1 | h1
  ·exact (HPN.out k hk).2 h1
  ·have h2:=(HO4.out.lt k (fp_own.1 hk)).2;omega
 have HOW:Hid (w5.ownsRow w.heap.size 5 1 (.slice A m c) m (bv (seqK s.K t m))):=own_low HO5.out HBZ.out.size
 clear hg5 hg5' hR5 hk5 hn5 HEA
 have HOV:=Lib.hid (over_rc HR5.out)
 go_wp2_with fail
 refine HOV.out.mono ?_
 rintro e w6 ⟨rfl,q6,hw6⟩
 have HR6:Hid (RcIn w6 p F5 v05 v45 n (takenS s m K')):=by rw [hw6];exact HR5.out.drewN q6
 have HK6:Hid (Kept F w w6):=by rw [hw6];exact HK5.out.drewN q6
 have HO6:Hid (w6.ownsRow w.heap.size 5 1 (.slice A m c) m (bv (seqK s.K t m))):=by rw [hw6];exact HOW.out
 obtain ⟨_,_,_,_,_,_,_,_,_,hc9,_⟩:=HR6.out.cells
 have hc9':w6.cell? ⟨p,9,none⟩=some (.int .i64 s.code):=hc9
 clear hw6 hc9 HOV
 obtain ⟨ov,hov⟩:∃ x,overS (takenS s m K')=x:=⟨_,rfl⟩
 have HOE:=Lib.hid hov
 rw [hov]
 clear hov
 by_cases h2:ov=2
 ·subst h2
  go_wp2_with fail
  go_ret3
  refine HQ.out _ _ ⟨A,c,K',F5,v05,v45,?_,HR6.out,HK6.out,HN5.out,HO6.out,HD5.out,HKE.out⟩
  rw [HOE.out,if_pos rfl]
  rfl
 ·have h2b:(ov == 2)=false:=by simpa using h2
  go_wp2_with fail
  go_ret3
  refine HQ.out _ _ ⟨A,c,K',F5,v05,v45,?_,HR6.out,HK6.out,HN5.out,HO6.out,HD5.out,HKE.out⟩
  rw [HOE.out,if_neg h2]
  rfl
end
end Go.Proofs.Ytoahkffdoaphlaa.Re
