/- Joined texts. Conditions: as each theorem lists them. -/
import Derived.Test.YtoahkffdoaphlaaJYb
import Derived.Test.YtoahkffdoaphlaaJRv
set_option linter.unusedSimpArgs false
set_option linter.unusedVariables false
set_option maxRecDepth 100000
set_option maxHeartbeats 80000000
namespace Go.Proofs.Ytoahkffdoaphlaa.Se
open Go Go.RowKit Go.Proofs.Ytoahkffdoaphlaa Go.Proofs.Ytoahkffdoaphlaa.Sp Go.Proofs.Ytoahkffdoaphlaa.Sp.Ref
section
variable {w w':World} {p:Nat} {G:List Nat} {v1 v8 v9:Value} {s:St}
theorem rwrite_st (h:RIn w p G v1 v8 v9 s) (hn:s.bs.length≤4000) (b:List Nat) (B:Nat) (A:Option Addr) (c:Nat) (hb:Rd w B A b.length (bv b)) (hB:B≤w.heap.size) (hm:b.length≤140737488355328) :
  Calls Try.prog 11 #[.pointer (some ⟨p,0,none⟩),.slice A b.length c] w fun e w'=>e=.returned (.int .i64 (writeS s b).1)∧RTo w w' p G (writeS s b).2:=by
 obtain ⟨_,hc1,_,_,hc4,hc5,_⟩:=h.cells
 have HH:Hid (RTo w w p G s):=h.here (Below.refl _ _)
 cases hfd:s.fd
 ·cases hrs:s.rs
  ·rw [hfd] at hc4
   rw [hrs] at hc5
   have hnI:(s.bs.length:Int)≤4000:=by omega
   have H:=Lib.hid h
   obtain ⟨Ad,cd,rfl,hcd,hrd,_⟩:=h.data
   have hbI:(b.length:Int)≤140737488355328:=by omega
   obtain ⟨nb,hnb⟩:∃ x,s.bs.length=x:=⟨_,rfl⟩
   obtain ⟨mb,hmb⟩:∃ x,b.length=x:=⟨_,rfl⟩
   by_cases hl:4000<s.bs.length+b.length
   ·have e:writeS s b=(9,s):=by unfold writeS;rw [if_neg (by rw [hfd,hrs];simp),if_pos hl]
    rw [e]
    rw [hnb] at hc1 hnI hl
    rw [hmb] at hbI hl ⊢
    have hlI:(4000:Int)<(nb:Int)+(mb:Int):=by omega
    clear e hfd hrs h hnb hmb hb hrd hcd hl
    go_enter Try.func11,Try.ntmps11
    go_wp2_with fail
    go_ret
    exact ⟨rfl,HH.out⟩
   ·have e:writeS s b=(0,⟨s.l,s.u,s.id,s.bs ++ b,s.lost,s.came,s.fd,s.fin,s.rs,s.code,s.sure,s.br⟩):=by unfold writeS;rw [if_neg (by rw [hfd,hrs];simp),if_neg hl]
    rw [e]
    obtain ⟨i0,hi,hz0,hz1,hz2⟩:=info_parts infoB
    have HI:=Lib.hid (And.intro hi (And.intro hz0 (And.intro hz1 hz2)))
    have HB:Hid (Rd w B A (mb * 1) (bv b)):=by rw [Nat.mul_one,← hmb];exact hb
    have HR:Hid (Rd w w.heap.size Ad (nb * 1) (bv s.bs)):=by rw [Nat.mul_one,← hnb];exact hrd
    rw [hnb] at hc1 hnI hl
    rw [hmb] at hbI hl ⊢
    have hlI:¬ (4000:Int)<(nb:Int)+(mb:Int):=by omega
    have HL:Hid (0+nb≤maxLen∧(0+nb) * 1≤140737488355328∧nb+mb≤maxLen∧(nb+mb) * 1≤140737488355328):=⟨by unfold maxLen;omega,by omega,by unfold maxLen;omega,by omega⟩
    have HBB:=Lib.hid hB
    have HNB:=Lib.hid (And.intro hnb hmb)
    clear e hfd hrs h hb hi hz0 hz1 hz2 hl hnb hmb hrd hcd hm hn hB
    go_enter Try.func11,Try.ntmps11
    have hb0:Below w.heap.size w (w.alloc (.cells #[] 5)):=(Below.refl _ _).alloc (Nat.le_refl _) _
    have hc10:(w.alloc (.cells #[] 5)).cell? ⟨p,1,none⟩=some (.slice Ad nb cd):=(hb0.cell (p:=⟨p,1,none⟩) (H.out.hG p H.out.pG)).trans hc1
    clear hb0
    have HO0:Hid ((w.alloc (.cells #[] 5)).ownsRow w.heap.size 5 1 (.slice (some ⟨w.heap.size,0,none⟩) 0 0) 0 []):=own_new w #[] 5 1 0 _ _ rfl rfl (by unfold maxLen;omega) (Nat.le_refl _)
    have HR2:Hid (Rd (w.alloc (.cells #[] 5)) w.heap.size Ad (nb * 1) (bv s.bs)):=HR.out.alloc (Nat.le_refl _) _
    go_wp2_with (at_builtin;refine wpList_app _ rfl (.tmp 25) (.tmp 29) 30 rfl w.heap.size 5 i0 (.int .u8 0) 1 1 Try.underlying30 HI.out.1 HI.out.2.1 HI.out.2.2.1 HI.out.2.2.2 rfl (by decide) (.slice (some ⟨w.heap.size,0,none⟩) 0 0) 0 [] rfl HO0.out w.heap.size Ad nb cd (bv s.bs) rfl HR2.out (ones_bv _) HL.out.1 HL.out.2.1 (by simp) ?_)
    intro v1 w1 ho1 hg1
    have HB1:Hid (Below w.heap.size w w1):=((Below.refl _ _).alloc (Nat.le_refl _) _).grown hg1 (by simp) (fun g hg=>(HO0.out.lt g hg).1)
    obtain ⟨A1,c1,e1,_⟩:=own_form ho1
    subst e1
    have HO1:=Lib.hid ho1
    have HX1:Hid (Rd w1 B A (mb * 1) (bv b)):=HB.out.below HB1.out HBB.out
    have hs1:=HB1.out.size
    clear ho1 hg1 hc10
    go_wp2_with (at_builtin;refine wpList_app _ rfl (.tmp 30) (.tmp 31) 30 rfl w.heap.size 5 i0 (.int .u8 0) 1 1 Try.underlying30 HI.out.1 HI.out.2.1 HI.out.2.2.1 HI.out.2.2.2 rfl (by decide) (.slice A1 nb c1) nb (bv s.bs) rfl HO1.out B A mb c (bv b) rfl HX1.out (ones_bv _) HL.out.2.2.1 HL.out.2.2.2 hs1 ?_)
    intro v2 w2 ho2 hg2
    have HB2:Hid (Below w.heap.size w w2):=HB1.out.grown hg2 hs1 (fun g hg=>(HO1.out.lt g hg).1)
    have HT:Hid (RTo w (w2.setCell ⟨p,1,none⟩ v2) p G ⟨s.l,s.u,s.id,s.bs ++ b,s.lost,s.came,s.fd,s.fin,s.rs,s.code,s.sure,s.br⟩):=by
     have hk2:Kept [p] w2 (w2.setCell ⟨p,1,none⟩ v2):=kept_set _ _ _ _
     have hk:Kept [p] w (w2.setCell ⟨p,1,none⟩ v2):=(Kept.ofBelow _ HB2.out).then hk2
     have hlen:(s.bs ++ b).length=nb+mb:=by rw [List.length_append,HNB.out.1,HNB.out.2]
     have ho2':w2.ownsRow w.heap.size 5 1 v2 (s.bs ++ b).length (bv (s.bs ++ b)):=by rw [hlen,bv_app];exact ho2
     obtain ⟨A2,c2,rfl,h3,_,_,h4⟩:=own_form ho2'
     rw [Nat.mul_one] at h4
     have hfar:∀ k ∈ fe (.slice A2 (s.bs ++ b).length c2),w.heap.size≤k:=fun k hk'=>by
      obtain ⟨_,a,rfl,rfl⟩:=fe_mem.1 hk'
      exact own_from ho2' a rfl
     have hpw:p<w.heap.size:=H.out.hG p H.out.pG
     refine H.out.step (u8:=v8) (u9:=v9) hk (set_slot ((HB2.out.block p hpw).trans H.out.hp) 1 _) ⟨A2,c2,rfl,h3,rd_kept h4 hk2 (fun h0 a ea hm=>by have:=hfar a.block (fe_mem.2 ⟨h0,a,ea,rfl⟩);simp at hm;omega),fun k hk' e=>by have:=hfar k hk';omega⟩ (H.out.came' hk) (H.out.lost' hk) (fun k hk'=>.inr (hfar k hk')) (fun _ h=>.inl h) (fun _ h=>.inl h)
    have hf1:w2.frozen? ⟨p,1,none⟩=false:=free_slot ((HB2.out.block p (H.out.hG p H.out.pG)).trans H.out.hp)
    have hcz:w2.cell? ⟨p,1,none⟩=some (.slice Ad nb cd):=by rw [HB2.out.cell (p:=⟨p,1,none⟩) (H.out.hG p H.out.pG)];exact hc1
    obtain ⟨A2,c2,e2,_⟩:=own_form ho2
    subst e2
    clear ho2 hg2
    go_wp2_with fail
    go_ret
    exact ⟨rfl,HT.out⟩
  ·rw [hrs] at hc5
   rw [hfd] at hc4
   have e:writeS s b=(6,s):=by unfold writeS;rw [if_pos (.inr hrs)]
   rw [e]
   clear e hfd hrs h
   go_enter Try.func11,Try.ntmps11
   go_wp2_with fail
   go_ret
   exact ⟨rfl,HH.out⟩
 ·rw [hfd] at hc4
  have e:writeS s b=(6,s):=by unfold writeS;rw [if_pos (.inl hfd)]
  rw [e]
  clear e hfd h
  go_enter Try.func11,Try.ntmps11
  go_wp2_with fail
  go_ret
  exact ⟨rfl,HH.out⟩
theorem rIn_reset (h:RIn w p G v1 v8 v9 s) (sure:Int):RIn ((((w.setCell ⟨p,7,none⟩ (.int .i64 sure)).setCell ⟨p,13,none⟩ (.bool false)).setCell ⟨p,15,none⟩ (.bool false)).setCell ⟨p,14,none⟩ (.bool false)) p G v1 v8 v9 ⟨s.l,s.u,s.id,s.bs,s.lost,s.came,s.fd,s.fin,s.rs,s.code,sure,0⟩:=by
 have hk:Kept [p] w ((((w.setCell ⟨p,7,none⟩ (.int .i64 sure)).setCell ⟨p,13,none⟩ (.bool false)).setCell ⟨p,15,none⟩ (.bool false)).setCell ⟨p,14,none⟩ (.bool false)):=(((kept_set _ _ _ _).then (kept_set _ _ _ _)).then (kept_set _ _ _ _)).then (kept_set _ _ _ _)
 exact ⟨set_slot (set_slot (set_slot (set_slot h.hp 7 _) 13 _) 15 _) 14 _,fun k hk'=>Nat.lt_of_lt_of_le (h.hG k hk') hk.size,h.pG,h.data' hk,h.came' hk,h.lost' hk,h.g1,h.g8,h.g9⟩
theorem rIn_first (h:RIn w p G v1 v8 v9 s) (code:Int):RIn ((w.setCell ⟨p,5,none⟩ (.bool true)).setCell ⟨p,6,none⟩ (.int .i64 code)) p G v1 v8 v9 ⟨s.l,s.u,s.id,s.bs,s.lost,s.came,s.fd,s.fin,true,code,s.sure,s.br⟩:=by
 have hk:Kept [p] w ((w.setCell ⟨p,5,none⟩ (.bool true)).setCell ⟨p,6,none⟩ (.int .i64 code)):=(kept_set _ _ _ _).then (kept_set _ _ _ _)
 exact ⟨set_slot (set_slot h.hp 5 _) 6 _,fun k hk'=>Nat.lt_of_lt_of_le (h.hG k hk') hk.size,h.pG,h.data' hk,h.came' hk,h.lost' hk,h.g1,h.g8,h.g9⟩
theorem rbreak_st (h:RIn w p G v1 v8 v9 s) (hl:s.came.length≤1000000) (code sure:Int) :
  Calls Try.prog 15 #[.pointer (some ⟨p,0,none⟩),.int .i64 code,.int .i64 sure] w fun e w'=>e=.returned (.int .i64 (resetS s code sure).1)∧RTo w w' p G (resetS s code sure).2:=by
 obtain ⟨_,hc1,_,_,_,hc5,hc6,hc7,_⟩:=h.cells
 have HM:=Lib.hid (fun W=>may_any code W)
 have HD:=Lib.hid (rdone_st h hl)
 have H:=Lib.hid h
 have HH:Hid (RTo w w p G s):=h.here (Below.refl _ _)
 obtain ⟨Ad,cd,rfl,_⟩:=h.data
 obtain ⟨m,hm⟩:∃ x,mayB code=x:=⟨_,rfl⟩
 rw [hm] at HM
 obtain ⟨nb,hnb⟩:∃ x,s.bs.length=x:=⟨_,rfl⟩
 rw [hnb] at hc1
 have HMB:Hid (m=decide (0≤code∧code≤4611686018427387903)):=by show m=_;rw [← hm];unfold mayB;simp
 have HNB:=Lib.hid hnb
 clear hm hnb
 cases m
 ·have e:resetS s code sure=(1,s):=by
   have:=of_decide_eq_false HMB.out.symm
   unfold resetS;rw [if_pos (by omega)]
  rw [e]
  clear e HMB HD h
  go_enter Try.func15,Try.ntmps15
  go_wp2_with (go_at_call 52;refine (HM.out _).mono ?_;rintro e w' ⟨rfl,rfl⟩)
  go_ret
  exact ⟨rfl,HH.out⟩
 ·have hmc:=of_decide_eq_true HMB.out.symm
  by_cases hs0:sure<0
  ·have e:resetS s code sure=(1,s):=by unfold resetS;rw [if_pos (.inr (.inr (.inl hs0)))]
   rw [e]
   clear e HMB HD h hmc
   go_enter Try.func15,Try.ntmps15
   go_wp2_with (go_at_call 52;refine (HM.out _).mono ?_;rintro e w' ⟨rfl,rfl⟩)
   go_ret
   exact ⟨rfl,HH.out⟩
  ·by_cases hs1:(nb:Int)<sure
   ·have e:resetS s code sure=(1,s):=by unfold resetS;rw [if_pos (.inr (.inr (.inr (by rw [HNB.out];exact hs1))))]
    rw [e]
    clear e HMB HD h hmc
    go_enter Try.func15,Try.ntmps15
    go_wp2_with (go_at_call 52;refine (HM.out _).mono ?_;rintro e w' ⟨rfl,rfl⟩)
    go_ret
    exact ⟨rfl,HH.out⟩
   ·have HC:Hid (¬ (code<0∨4611686018427387903<code∨sure<0∨(s.bs.length:Int)<sure)):=by
     show ¬ _
     rw [HNB.out]
     omega
    obtain ⟨d,hd⟩:∃ x,doneS s=x:=⟨_,rfl⟩
    rw [hd] at HD
    obtain ⟨rs,hrs⟩:∃ x,s.rs=x:=⟨_,rfl⟩
    rw [hrs] at hc5
    have HRS:=Lib.hid hrs
    cases d
    ·cases rs
     ·have e:resetS s code sure=(0,⟨s.l,s.u,s.id,s.bs,s.lost,s.came,s.fd,s.fin,true,code,sure,0⟩):=by unfold resetS;rw [if_neg HC.out,if_neg (by rw [hd,hrs];simp),if_neg (by rw [hrs];simp)]
      rw [e]
      clear e HMB h hmc hd hrs HC hc5 hc6 hc7
      go_enter Try.func15,Try.ntmps15
      go_wp2_with (go_at_call 52;refine (HM.out _).mono ?_;rintro e w' ⟨rfl,rfl⟩)
      refine HD.out.mono ?_
      rintro e w2 ⟨rfl,hb2⟩
      have H2:=Lib.hid (H.out.below hb2)
      have HB2:=Lib.hid hb2
      clear hb2 hc1
      obtain ⟨_,hc1,_,_,_,hc5,hc6,hc7,_,_,_,_,_,hc13,hc14,hc15⟩:=H2.out.cells
      rw [HRS.out] at hc5
      have hf5:=H2.out.free 5
      have hf6:=H2.out.free 6
      have hf7:=H2.out.free 7
      have hf13:=H2.out.free 13
      have hf14:=H2.out.free 14
      have hf15:=H2.out.free 15
      go_wp2_with fail
      go_ret
      refine ⟨rfl,?_⟩
      exact (rIn_reset (rIn_first H2.out code) sure).to ((((((((Kept.ofBelow _ HB2.out).then (kept_set _ _ _ _)).then (kept_set _ _ _ _)).then (kept_set _ _ _ _)).then (kept_set _ _ _ _)).then (kept_set _ _ _ _)).then (kept_set _ _ _ _)))
     ·by_cases hle:s.sure≤sure
      ·have e:resetS s code sure=(6,s):=by unfold resetS;rw [if_neg HC.out,if_pos (.inr ⟨hrs,hle⟩)]
       rw [e]
       clear e HMB h hmc hd hrs HC hc5 hc6 hc7
       go_enter Try.func15,Try.ntmps15
       go_wp2_with (go_at_call 52;refine (HM.out _).mono ?_;rintro e w' ⟨rfl,rfl⟩)
       refine HD.out.mono ?_
       rintro e w2 ⟨rfl,hb2⟩
       have H2:=Lib.hid (H.out.below hb2)
       have HB2:=Lib.hid hb2
       clear hb2 hc1
       obtain ⟨_,_,_,_,_,hc5,_,hc7,_⟩:=H2.out.cells
       rw [HRS.out] at hc5
       go_wp2_with fail
       go_ret
       exact ⟨rfl,H2.out.to (Kept.ofBelow _ HB2.out)⟩
      ·have e:resetS s code sure=(0,⟨s.l,s.u,s.id,s.bs,s.lost,s.came,s.fd,s.fin,true,s.code,sure,0⟩):=by unfold resetS;rw [if_neg HC.out,if_neg (fun hx=>by rcases hx with hx | hx;rw [hd] at hx;cases hx;exact hle hx.2),if_pos hrs]
       rw [e]
       clear e HMB h hmc hd hrs HC hc5 hc6 hc7
       go_enter Try.func15,Try.ntmps15
       go_wp2_with (go_at_call 52;refine (HM.out _).mono ?_;rintro e w' ⟨rfl,rfl⟩)
       refine HD.out.mono ?_
       rintro e w2 ⟨rfl,hb2⟩
       have H2:=Lib.hid (H.out.below hb2)
       have HB2:=Lib.hid hb2
       clear hb2 hc1
       obtain ⟨_,_,_,_,_,hc5,_,hc7,_,_,_,_,_,hc13,hc14,hc15⟩:=H2.out.cells
       rw [HRS.out] at hc5
       have hf7:=H2.out.free 7
       have hf13:=H2.out.free 13
       have hf14:=H2.out.free 14
       have hf15:=H2.out.free 15
       go_wp2_with fail
       go_ret
       refine ⟨rfl,?_⟩
       have:=(rIn_reset H2.out sure).to (((((Kept.ofBelow _ HB2.out).then (kept_set _ _ _ _)).then (kept_set _ _ _ _)).then (kept_set _ _ _ _)).then (kept_set _ _ _ _))
       rw [HRS.out] at this
       exact this
    ·have e:resetS s code sure=(6,s):=by unfold resetS;rw [if_neg HC.out,if_pos (.inl hd)]
     rw [e]
     clear e HMB h hmc hd hrs HC hc5 hc6 hc7
     go_enter Try.func15,Try.ntmps15
     go_wp2_with (go_at_call 52;refine (HM.out _).mono ?_;rintro e w' ⟨rfl,rfl⟩)
     refine HD.out.mono ?_
     rintro e w2 ⟨rfl,hb2⟩
     have H2:=Lib.hid (H.out.below hb2)
     have HB2:=Lib.hid hb2
     clear hb2 hc1
     go_wp2_with fail
     go_ret
     exact ⟨rfl,H2.out.to (Kept.ofBelow _ HB2.out)⟩
end
end Go.Proofs.Ytoahkffdoaphlaa.Se
