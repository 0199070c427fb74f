/- Joined texts. Conditions: as each theorem lists them. -/
import Derived.Test.YtccljifichaieaaDoorJUg1
import Derived.Test.YtccljifichaieaaDoorJUg2
import Derived.Test.YtccljifichaieaaDoorJUg3
import Derived.Test.YtccljifichaieaaDoorJUg4
import Derived.BigQuiet
import Derived.Outline
import Derived.BigGuard
import Derived.Deep.DeepCutAuto
import Derived.OwnWalk
set_option linter.unusedSimpArgs false
set_option linter.unusedVariables false
set_option maxRecDepth 100000
set_option maxHeartbeats 8000000
namespace Go.Proofs.YtccljifichaieaaDoor.Rv
open Go Go.RowKit
theorem stepO_run {i:Nat} {es es2:List Int} {r r2:List Nat} (hi:InM es) (hl:es.length=2 * i) (hs:SpsOk es i) (hb:∀ c ∈ r,c<256) (h:stepO i (es,r)=some (es2,r2)):SpsOk es2 (i+1):=by
 unfold stepO at h
 cases hd:dec r with
 | none=>simp only [hd] at h;cases h
 | some p =>
   obtain ⟨v,W⟩:=p
   simp only [hd] at h
   split at h
   ·cases h
   ·rename_i hv
    cases hr:runO (lastO i es v) (r.drop W) with
    | none=>rw [hr] at h;cases h
    | some q =>
      obtain ⟨lo,r3⟩:=q
      rw [hr] at h
      simp only [Option.some.injEq,Prod.mk.injEq] at h
      obtain ⟨rfl,rfl⟩:=h
      obtain ⟨a1,a2,a3,_⟩:=runO_in hr
      have hle:=lastO_le (i:=i) (v:=v) hi (dec_lt hb hd)
      refine ⟨by simp;omega,fun k hk=>?_⟩
      by_cases hki:k<i
      ·obtain ⟨b1,b2,b3,b4⟩:=hs.2 k hki
       rw [getD_app_left _ _ _ (by omega),getD_app_left _ _ _ (by omega)]
       refine ⟨b1,b2,b3,fun h0=>?_⟩
       rw [getD_app_left _ _ _ (by omega)]
       exact b4 h0
      ·obtain rfl:k=i:=by omega
       have e0:(es ++ [lo,lastO k es v]).getD (2 * k) 0=lo:=by
        have:=getD_app_right es [lo,lastO k es v] 0
        rw [hl,Nat.add_zero] at this
        rw [this];rfl
       have e1:(es ++ [lo,lastO k es v]).getD (2 * k+1) 0=lastO k es v:=by
        have:=getD_app_right es [lo,lastO k es v] 1
        rw [hl] at this
        rw [this];rfl
       rw [e0,e1]
       refine ⟨a1,a2,hle.1,fun h0=>?_⟩
       rw [getD_app_left _ _ _ (by omega)]
       unfold lastO
       rw [if_neg (by omega)]
       have:¬ v<2:=fun h2=>hv ⟨h0,h2⟩
       omega
theorem runsO_sps {ds:List Nat} (hb:∀ c ∈ ds,c<256):∀ (i:Nat) (es:List Int) (r:List Nat),runsO ds i=some (es,r)→SpsOk es i
 | 0,es,r,h=>by
   simp only [runsO,Option.some.injEq,Prod.mk.injEq] at h
   rw [← h.1]
   exact ⟨rfl,fun k hk=>by omega⟩
 | i+1,es,r,h=>by
   unfold runsO at h
   cases hq:runsO ds i with
   | none=>rw [hq] at h;cases h
   | some q =>
     obtain ⟨es0,r0⟩:=q
     rw [hq] at h
     obtain ⟨g1,g2,g3⟩:=runsO_in hb i _ hq
     exact stepO_run g1 g3 (runsO_sps hb i es0 r0 hq) (fun c hc=>hb c (g2 c hc)) h
theorem ack_right {ds r:List Nat} {es:List Int} (hb:∀ c ∈ ds,c<256) (h:sO true ds=some (es,r)):rightB ⟨2,0,0,0,0,0,false,[],es⟩=true:=by
 unfold sO at h
 simp only at h
 cases hd:dec ds with
 | none=>rw [hd] at h;cases h
 | some p =>
   obtain ⟨n,W⟩:=p
   rw [hd] at h
   simp only at h
   split at h
   ·cases h
   ·have hs:=runsO_sps (fun c hc=>hb c (List.mem_of_mem_drop hc)) n es r h
    exact right_ok (okF_mk _ _ _ _ _ _ _ _ (by decide) ⟨wid0,wid0,wid0,wid0⟩ (by omega) ⟨by simp,by simp⟩ (by simp only [List.length_nil];omega) (by simp) (by simp) (by simp) (by simp) (by simp) (by simp) (by simp) (.inl ⟨rfl,n,by omega,by omega,hs⟩))
theorem frameO_2 {bs ds:List Nat} {W:Nat} (hd:dec bs=some (2,W)) (hds:bs.drop W=ds):frameO bs=match sO true ds with | none=>none | some (es,r)=>okO ⟨2,0,0,0,0,0,false,[],es⟩ r:=by
 unfold frameO bodyO
 simp only [hd,hds]
 rw [if_neg (by decide)]
 simp only [show nbit ((2:Nat):Int) 0=false from rfl,show nbit ((2:Nat):Int) 1=false from rfl,show nbit ((2:Nat):Int) 2=false from rfl,show nbit ((2:Nat):Int) 3=false from rfl,show nbit ((2:Nat):Int) 4=false from rfl,show nbit ((2:Nat):Int) 5=false from rfl,show nbit ((2:Nat):Int) 6=true from rfl,nO,fO,dO,okO]
 cases h:sO true ds with
 | none=>rfl
 | some q=>rfl
theorem rread_2 (bs:List Nat) (B:Nat) (A:Option Addr) (cap:Nat) (w:World) (hx:Rd w B A bs.length (bv bs)) (hB:B≤w.heap.size) (hb:∀ c ∈ bs,c<256) (hn:bs.length≤cap) (hm:bs.length≤1000000) (W:Nat) (hd:dec bs=some (2,W)) :
  Calls Tryd.prog 59 #[.slice A bs.length cap] w (ReadRP bs w):=by
 have HT0:Hid (∀ W',Below w.heap.size w W'→Calls Tryd.prog 79 #[.slice A bs.length cap] W' fun e w'=>TakeP bs W' e w'):=fun W' h=>rtake_any bs B A cap W' (hx.below h hB) (Nat.le_trans hB h.size) hb hn (by omega)
 have HLD:Hid ((bs.drop W).length=bs.length - W):=by show _=_;rw [List.length_drop]
 have HBD:Hid (∀ c ∈ bs.drop W,c<256):=fun c hc=>hb c (List.mem_of_mem_drop hc)
 have HLM:Hid ((bs.drop W).length≤1000000):=by show _≤_;rw [List.length_drop];omega
 obtain ⟨ds,hds⟩:∃ ds,bs.drop W=ds:=⟨_,rfl⟩
 have HFO:=Lib.hid (frameO_2 hd hds)
 rw [hds] at HLD HBD HLM
 have hds:=Lib.hid hds
 have hd:=Lib.hid hd
 clear hx hB hb hn
 go_enter Tryd.func59,Tryd.ntmps59
 go_wp2_with fail
 refine (HT0.out _ (((Below.refl _ _).alloc (Nat.le_refl _) _).alloc (by simp) _)).mono ?_
 rintro e w1 (⟨h1,_⟩ | ⟨v,V,v',h1,rfl,h3,h2⟩)
 ·rw [hd.out] at h1;cases h1
 ·rw [hd.out] at h1
  cases h1
  rw [← HLD.out,hds.out] at h3
  obtain ⟨A',c',rfl,g1,_,_,_⟩:=own_form h3
  rw [show ((2:Nat):Int)=2 from rfl]
  have hz:((w.alloc (.cells #[.int .i64 0,.int .i64 0,.int .i64 0,.int .i64 0,.int .i64 0,.int .i64 0,.bool false,.slice none 0 0,.slice none 0 0] 44)).alloc (.cells #[.int .i64 0,.int .i64 0,.int .i64 0,.int .i64 0,.int .i64 0,.int .i64 0,.bool false,.slice none 0 0,.slice none 0 0] 44)).heap.size=w.heap.size+1+1:=by simp
  rw [hz] at h2
  have hb0:w1.heap[w.heap.size]?=some (.cells #[.int .i64 0,.int .i64 0,.int .i64 0,.int .i64 0,.int .i64 0,.int .i64 0,.bool false,.slice none 0 0,.slice none 0 0] 44 (0,0)):=by
   rw [h2.block w.heap.size (by omega),heap_alloc_old _ _ (by simp)];exact heap_alloc_new _ _
  have hbf:w1.heap[w.heap.size+1]?=some (.cells #[.int .i64 0,.int .i64 0,.int .i64 0,.int .i64 0,.int .i64 0,.int .i64 0,.bool false,.slice none 0 0,.slice none 0 0] 44 (0,0)):=by
   rw [h2.block (w.heap.size+1) (by omega)]
   have:=heap_alloc_new (w.alloc (.cells #[.int .i64 0,.int .i64 0,.int .i64 0,.int .i64 0,.int .i64 0,.int .i64 0,.bool false,.slice none 0 0,.slice none 0 0] 44)) (.cells #[.int .i64 0,.int .i64 0,.int .i64 0,.int .i64 0,.int .i64 0,.int .i64 0,.bool false,.slice none 0 0,.slice none 0 0] 44)
   simpa using this
  have hs1:Hid (w.heap.size+1<w1.heap.size):=by have:=h2.size;rw [hz] at this;show _<_;omega
  have HB1:Hid (Below w.heap.size w w1):=(((Below.refl _ _).alloc (Nat.le_refl _) _).alloc (by simp) _).trans (h2.mono (by omega))
  have c0:=cell_of_row _ _ 0 _ _ _ hbf
  have f0:=frozen_of_row _ _ 0 _ _ hbf
  have HG0:Hid ((w1.setCell ⟨w.heap.size+1,0,none⟩ (.int .i64 2)).heap[w.heap.size]?=some (.cells #[.int .i64 0,.int .i64 0,.int .i64 0,.int .i64 0,.int .i64 0,.int .i64 0,.bool false,.slice none 0 0,.slice none 0 0] 44 (0,0))):=by show (w1.setCell ⟨w.heap.size+1,0,none⟩ (.int .i64 2)).heap[w.heap.size]?=_;rw [heap_setCell_other _ _ _ _ (by show w.heap.size≠w.heap.size+1;omega)];exact hb0
  have HGF:Hid ((w1.setCell ⟨w.heap.size+1,0,none⟩ (.int .i64 2)).heap[w.heap.size+1]?=some (.cells #[.int .i64 2,.int .i64 0,.int .i64 0,.int .i64 0,.int .i64 0,.int .i64 0,.bool false,.slice none 0 0,.slice none 0 0] 44 (0,0))):=heap_setCell_same _ _ 0 _ _ _ hbf
  have HBW:Hid (Below w.heap.size w (w1.setCell ⟨w.heap.size+1,0,none⟩ (.int .i64 2))):=HB1.out.trans (grown_below (grown_set _) HB1.out.size (by omega))
  have hro:=RdT.of_own (own_put9 h3 (grown_set (o:=0) (.int .i64 2)) hbf (by decide))
  have HSP:=Lib.hid (rspansR_any ds _ A' c' (w1.setCell ⟨w.heap.size+1,0,none⟩ (.int .i64 2)) hro.1 (Nat.le_refl _) HBD.out g1 HLM.out)
  clear h2 h3 g1 hz hb0 hbf HT0 hro
  obtain ⟨LD,hLD⟩:∃ L,Hid (ds.length=L):=⟨_,rfl⟩
  rw [hLD.out] at HSP ⊢
  go_wp2_with fail
  refine HSP.out.mono ?_
  rintro e w4 ⟨hb4,hno,hyes⟩
  have HGZ:Hid (w4.heap[w.heap.size]?=some (.cells #[.int .i64 0,.int .i64 0,.int .i64 0,.int .i64 0,.int .i64 0,.int .i64 0,.bool false,.slice none 0 0,.slice none 0 0] 44 (0,0))):=(hb4.block _ (Array.getElem?_eq_some_iff.1 HG0.out).1).trans HG0.out
  have HGK:Hid (w4.heap[w.heap.size+1]?=some (.cells #[.int .i64 2,.int .i64 0,.int .i64 0,.int .i64 0,.int .i64 0,.int .i64 0,.bool false,.slice none 0 0,.slice none 0 0] 44 (0,0))):=(hb4.block _ (Array.getElem?_eq_some_iff.1 HGF.out).1).trans HGF.out
  have HB4:Hid (Below w.heap.size w w4):=HBW.out.trans (hb4.mono HBW.out.size)
  have x0:=cell_of_row _ _ 0 _ _ _ HGK.out
  have y0:=cell_of_row _ _ 0 _ _ _ HGZ.out
  have z0:=frozen_of_row _ _ 0 _ _ HGZ.out
  have x1:=cell_of_row _ _ 1 _ _ _ HGK.out
  have y1:=cell_of_row _ _ 1 _ _ _ HGZ.out
  have z1:=frozen_of_row _ _ 1 _ _ HGZ.out
  have x2:=cell_of_row _ _ 2 _ _ _ HGK.out
  have y2:=cell_of_row _ _ 2 _ _ _ HGZ.out
  have z2:=frozen_of_row _ _ 2 _ _ HGZ.out
  have x3:=cell_of_row _ _ 3 _ _ _ HGK.out
  have y3:=cell_of_row _ _ 3 _ _ _ HGZ.out
  have z3:=frozen_of_row _ _ 3 _ _ HGZ.out
  have x4:=cell_of_row _ _ 4 _ _ _ HGK.out
  have y4:=cell_of_row _ _ 4 _ _ _ HGZ.out
  have z4:=frozen_of_row _ _ 4 _ _ HGZ.out
  have x5:=cell_of_row _ _ 5 _ _ _ HGK.out
  have y5:=cell_of_row _ _ 5 _ _ _ HGZ.out
  have z5:=frozen_of_row _ _ 5 _ _ HGZ.out
  have x6:=cell_of_row _ _ 6 _ _ _ HGK.out
  have y6:=cell_of_row _ _ 6 _ _ _ HGZ.out
  have z6:=frozen_of_row _ _ 6 _ _ HGZ.out
  have x7:=cell_of_row _ _ 7 _ _ _ HGK.out
  have y7:=cell_of_row _ _ 7 _ _ _ HGZ.out
  have z7:=frozen_of_row _ _ 7 _ _ HGZ.out
  have x8:=cell_of_row _ _ 8 _ _ _ HGK.out
  have y8:=cell_of_row _ _ 8 _ _ _ HGZ.out
  have z8:=frozen_of_row _ _ 8 _ _ HGZ.out
  have q8:=frozen_of_row _ _ 8 _ _ HGK.out
  cases hsp:sO true ds with
  | none =>
    obtain ⟨er,her,rfl⟩:=hno hsp
    have HFN:Hid (frameO bs=none):=by show frameO bs=none;rw [HFO.out,hsp]
    clear hsp
    have HZ5:Hid ((w4.setCell ⟨w.heap.size+1,8,none⟩ (.slice none 0 0)).heap[w.heap.size]?=some (.cells #[.int .i64 0,.int .i64 0,.int .i64 0,.int .i64 0,.int .i64 0,.int .i64 0,.bool false,.slice none 0 0,.slice none 0 0] 44 (0,0))):=by show (w4.setCell ⟨w.heap.size+1,8,none⟩ (.slice none 0 0)).heap[w.heap.size]?=_;rw [heap_setCell_other _ _ _ _ (by show w.heap.size≠w.heap.size+1;omega)];exact HGZ.out
    have HB5:Hid (Below w.heap.size w (w4.setCell ⟨w.heap.size+1,8,none⟩ (.slice none 0 0))):=HB4.out.trans (grown_below (grown_set _) HB4.out.size (by omega))
    clear hno hyes hb4
    go_wp2_with fail
    refine bodyPost_ret (results_row3 rfl _ _ w.heap.size #[.int .i64 2,.int .i64 0,.int .i64 0,.int .i64 0,.int .i64 0,.int .i64 0,.bool false,.slice none 0 0,.slice none 0 0] rfl (run_loadVar_row _ _ 44 44 _ (0,0) _ (put9_heap (.int .i64 2) (.int .i64 0) (.int .i64 0) (.int .i64 0) (.int .i64 0) (.int .i64 0) (.bool false) (.slice none 0 0) (.slice none 0 0) HZ5.out) Tryd.underlying44 rfl (by kernel_rfl))) rfl ?_
    have hgr:=put9_grown (w4.setCell ⟨w.heap.size+1,8,none⟩ (.slice none 0 0)) w.heap.size (.int .i64 2) (.int .i64 0) (.int .i64 0) (.int .i64 0) (.int .i64 0) (.int .i64 0) (.bool false) (.slice none 0 0) (.slice none 0 0)
    exact ⟨HB5.out.trans (grown_below hgr HB5.out.size (Nat.le_refl _)),fun _=>⟨⟨2,0,0,0,0,0,false,[],[]⟩,none,0,0,none,0,0,er,her,rfl⟩,fun f r h=>by rw [HFN.out] at h;cases h⟩
  | some q =>
    obtain ⟨es,r⟩:=q
    obtain ⟨A1,m,c1,A2,c2,rfl,hl,h8,ho,hc2,hr2⟩:=hyes es r hsp
    have HFS:Hid (frameO bs=some (⟨2,0,0,0,0,0,false,[],es⟩,r)):=by show frameO bs=_;rw [HFO.out,hsp];exact okO_yes (ack_right HBD.out hsp)
    have HO4:Hid (w4.ownsRow w.heap.size 67 2 (.slice A1 m c1) m (ints es)):=own_base ho HBW.out.size
    have HR4:=Lib.hid hr2
    have HC2:=Lib.hid hc2
    have HL:=Lib.hid hl
    have H8:=Lib.hid h8
    clear hsp hl h8 ho hc2 hr2
    obtain ⟨LR,hLR⟩:∃ L,Hid (r.length=L):=⟨_,rfl⟩
    rw [hLR.out]
    have HZ5:Hid ((w4.setCell ⟨w.heap.size+1,8,none⟩ (.slice A1 m c1)).heap[w.heap.size]?=some (.cells #[.int .i64 0,.int .i64 0,.int .i64 0,.int .i64 0,.int .i64 0,.int .i64 0,.bool false,.slice none 0 0,.slice none 0 0] 44 (0,0))):=by show (w4.setCell ⟨w.heap.size+1,8,none⟩ (.slice A1 m c1)).heap[w.heap.size]?=_;rw [heap_setCell_other _ _ _ _ (by show w.heap.size≠w.heap.size+1;omega)];exact HGZ.out
    have HB5:Hid (Below w.heap.size w (w4.setCell ⟨w.heap.size+1,8,none⟩ (.slice A1 m c1))):=HB4.out.trans (grown_below (grown_set _) HB4.out.size (by omega))
    clear hno hyes hb4
    go_wp2_with fail
    refine bodyPost_ret (results_row3 rfl _ _ w.heap.size #[.int .i64 2,.int .i64 0,.int .i64 0,.int .i64 0,.int .i64 0,.int .i64 0,.bool false,.slice none 0 0,.slice A1 m c1] rfl (run_loadVar_row _ _ 44 44 _ (0,0) _ (put9_heap (.int .i64 2) (.int .i64 0) (.int .i64 0) (.int .i64 0) (.int .i64 0) (.int .i64 0) (.bool false) (.slice none 0 0) (.slice A1 m c1) HZ5.out) Tryd.underlying44 rfl (by kernel_rfl))) rfl ?_
    have hgr:=put9_grown (w4.setCell ⟨w.heap.size+1,8,none⟩ (.slice A1 m c1)) w.heap.size (.int .i64 2) (.int .i64 0) (.int .i64 0) (.int .i64 0) (.int .i64 0) (.int .i64 0) (.bool false) (.slice none 0 0) (.slice A1 m c1)
    refine ⟨HB5.out.trans (grown_below hgr HB5.out.size (Nat.le_refl _)),fun h=>(by rw [HFS.out] at h;cases h),fun f r' h=>?_⟩
    rw [HFS.out] at h
    simp only [Option.some.injEq,Prod.mk.injEq] at h
    obtain ⟨rfl,rfl⟩:=h
    have hset:=grown_set (w:=w4) (p:=w.heap.size+1) (o:=8) (.slice A1 m c1)
    have hk1:∀ k,some (w.heap.size+1)=some k→∃ cur fr e,w4.heap[k]?=some (.cells cur e fr)∧e≠5:=fun k hk=>by cases hk;exact ⟨_,_,_,HGK.out,by decide⟩
    have hk2:∀ k,some w.heap.size=some k→∃ cur fr e,(w4.setCell ⟨w.heap.size+1,8,none⟩ (.slice A1 m c1)).heap[k]?=some (.cells cur e fr)∧e≠5:=fun k hk=>by cases hk;exact ⟨_,_,_,HZ5.out,by decide⟩
    exact ⟨none,0,0,A1,m,c1,A2,c2,by rw [hLR.out];rfl,rfl,HL.out,by omega,H8.out,own_nil _ _ _ _,own_put9 (own_put9 HO4.out hset HGK.out (by decide)) hgr HZ5.out (by decide),HC2.out,((HR4.out.keep hset hk1).keep hgr hk2).more (Nat.le_trans hset.size hgr.size)⟩
theorem rread_no (bs:List Nat) (B:Nat) (A:Option Addr) (cap:Nat) (w:World) (hx:Rd w B A bs.length (bv bs)) (hB:B≤w.heap.size) (hb:∀ c ∈ bs,c<256) (hn:bs.length≤cap) (hm:bs.length≤1000000) (hd:dec bs=none∨∃ k W,dec bs=some (k,W)∧(k<1∨12<k)) :
  Calls Tryd.prog 59 #[.slice A bs.length cap] w (ReadRP bs w):=by
 have HT0:Hid (∀ W',Below w.heap.size w W'→Calls Tryd.prog 79 #[.slice A bs.length cap] W' fun e w'=>TakeP bs W' e w'):=fun W' h=>rtake_any bs B A cap W' (hx.below h hB) (Nat.le_trans hB h.size) hb hn (by omega)
 have HFN:Hid (frameO bs=none):=by
  show frameO bs=none
  unfold frameO
  rcases hd with h | ⟨k,W,h,hk⟩
  ·simp only [h]
  ·simp only [h];rw [if_pos hk]
 have HD:=Lib.hid hd
 clear hx hB hb hn hd
 have key:∀ w1:World,Below (((w.alloc (.cells #[.int .i64 0,.int .i64 0,.int .i64 0,.int .i64 0,.int .i64 0,.int .i64 0,.bool false,.slice none 0 0,.slice none 0 0] 44)).alloc (.cells #[.int .i64 0,.int .i64 0,.int .i64 0,.int .i64 0,.int .i64 0,.int .i64 0,.bool false,.slice none 0 0,.slice none 0 0] 44)).heap.size) ((w.alloc (.cells #[.int .i64 0,.int .i64 0,.int .i64 0,.int .i64 0,.int .i64 0,.int .i64 0,.bool false,.slice none 0 0,.slice none 0 0] 44)).alloc (.cells #[.int .i64 0,.int .i64 0,.int .i64 0,.int .i64 0,.int .i64 0,.int .i64 0,.bool false,.slice none 0 0,.slice none 0 0] 44)) w1→w1.heap[w.heap.size]?=some (.cells #[.int .i64 0,.int .i64 0,.int .i64 0,.int .i64 0,.int .i64 0,.int .i64 0,.bool false,.slice none 0 0,.slice none 0 0] 44 (0,0))∧w1.heap[w.heap.size+1]?=some (.cells #[.int .i64 0,.int .i64 0,.int .i64 0,.int .i64 0,.int .i64 0,.int .i64 0,.bool false,.slice none 0 0,.slice none 0 0] 44 (0,0))∧Below w.heap.size w w1:=fun w1 h2=>by
  have hz:((w.alloc (.cells #[.int .i64 0,.int .i64 0,.int .i64 0,.int .i64 0,.int .i64 0,.int .i64 0,.bool false,.slice none 0 0,.slice none 0 0] 44)).alloc (.cells #[.int .i64 0,.int .i64 0,.int .i64 0,.int .i64 0,.int .i64 0,.int .i64 0,.bool false,.slice none 0 0,.slice none 0 0] 44)).heap.size=w.heap.size+1+1:=by simp
  rw [hz] at h2
  refine ⟨?_,?_,(((Below.refl _ _).alloc (Nat.le_refl _) _).alloc (by simp) _).trans (h2.mono (by omega))⟩
  ·rw [h2.block w.heap.size (by omega),heap_alloc_old _ _ (by simp)];exact heap_alloc_new _ _
  ·rw [h2.block (w.heap.size+1) (by omega)]
   have:=heap_alloc_new (w.alloc (.cells #[.int .i64 0,.int .i64 0,.int .i64 0,.int .i64 0,.int .i64 0,.int .i64 0,.bool false,.slice none 0 0,.slice none 0 0] 44)) (.cells #[.int .i64 0,.int .i64 0,.int .i64 0,.int .i64 0,.int .i64 0,.int .i64 0,.bool false,.slice none 0 0,.slice none 0 0] 44)
   simpa using this
 have KEY:=Lib.hid key
 clear key
 go_enter Tryd.func59,Tryd.ntmps59
 go_wp2_with fail
 refine (HT0.out _ (((Below.refl _ _).alloc (Nat.le_refl _) _).alloc (by simp) _)).mono ?_
 rintro e w1 (⟨h1,rfl,h2⟩ | ⟨v,V,v',h1,rfl,h3,h2⟩)
 ·obtain ⟨q0,q1,q2⟩:=KEY.out w1 h2
  have HE0:=Lib.hid q0
  have HEF:=Lib.hid q1
  have HBE:=Lib.hid q2
  have x0:=cell_of_row _ _ 0 _ _ _ HEF.out
  have x1:=cell_of_row _ _ 1 _ _ _ HEF.out
  have x2:=cell_of_row _ _ 2 _ _ _ HEF.out
  have x3:=cell_of_row _ _ 3 _ _ _ HEF.out
  have x4:=cell_of_row _ _ 4 _ _ _ HEF.out
  have x5:=cell_of_row _ _ 5 _ _ _ HEF.out
  have x6:=cell_of_row _ _ 6 _ _ _ HEF.out
  have x7:=cell_of_row _ _ 7 _ _ _ HEF.out
  have x8:=cell_of_row _ _ 8 _ _ _ HEF.out
  have y0:=cell_of_row _ _ 0 _ _ _ HE0.out
  have z0:=frozen_of_row _ _ 0 _ _ HE0.out
  have y1:=cell_of_row _ _ 1 _ _ _ HE0.out
  have z1:=frozen_of_row _ _ 1 _ _ HE0.out
  have y2:=cell_of_row _ _ 2 _ _ _ HE0.out
  have z2:=frozen_of_row _ _ 2 _ _ HE0.out
  have y3:=cell_of_row _ _ 3 _ _ _ HE0.out
  have z3:=frozen_of_row _ _ 3 _ _ HE0.out
  have y4:=cell_of_row _ _ 4 _ _ _ HE0.out
  have z4:=frozen_of_row _ _ 4 _ _ HE0.out
  have y5:=cell_of_row _ _ 5 _ _ _ HE0.out
  have z5:=frozen_of_row _ _ 5 _ _ HE0.out
  have y6:=cell_of_row _ _ 6 _ _ _ HE0.out
  have z6:=frozen_of_row _ _ 6 _ _ HE0.out
  have y7:=cell_of_row _ _ 7 _ _ _ HE0.out
  have z7:=frozen_of_row _ _ 7 _ _ HE0.out
  have y8:=cell_of_row _ _ 8 _ _ _ HE0.out
  have z8:=frozen_of_row _ _ 8 _ _ HE0.out
  clear q0 q1 q2 h2
  go_wp2_with fail
  refine bodyPost_ret (results_row3 rfl _ _ w.heap.size #[.int .i64 0,.int .i64 0,.int .i64 0,.int .i64 0,.int .i64 0,.int .i64 0,.bool false,.slice none 0 0,.slice none 0 0] rfl (run_loadVar_row _ _ 44 44 _ (0,0) _ (put9_heap (.int .i64 0) (.int .i64 0) (.int .i64 0) (.int .i64 0) (.int .i64 0) (.int .i64 0) (.bool false) (.slice none 0 0) (.slice none 0 0) HE0.out) Tryd.underlying44 rfl (by kernel_rfl))) rfl ?_
  exact ⟨HBE.out.trans (grown_below (put9_grown _ _ _ _ _ _ _ _ _ _ _) HBE.out.size (Nat.le_refl _)),fun _=>⟨⟨0,0,0,0,0,0,false,[],[]⟩,none,0,0,none,0,0,3,by decide,rfl⟩,fun f r h=>by rw [HFN.out] at h;cases h⟩
 ·obtain ⟨q0,q1,q2⟩:=KEY.out w1 h2
  have hv:v<1∨12<v:=by
   rcases HD.out with h | ⟨k,W,h,hk⟩
   ·rw [h1] at h;cases h
   ·rw [h1] at h;cases h;exact hk
  clear h1 h3
  by_cases hv1:v<1
  ·obtain rfl:v=0:=by omega
   have HE0:=Lib.hid q0
   have HEF:=Lib.hid q1
   have HBE:=Lib.hid q2
   have x0:=cell_of_row _ _ 0 _ _ _ HEF.out
   have x1:=cell_of_row _ _ 1 _ _ _ HEF.out
   have x2:=cell_of_row _ _ 2 _ _ _ HEF.out
   have x3:=cell_of_row _ _ 3 _ _ _ HEF.out
   have x4:=cell_of_row _ _ 4 _ _ _ HEF.out
   have x5:=cell_of_row _ _ 5 _ _ _ HEF.out
   have x6:=cell_of_row _ _ 6 _ _ _ HEF.out
   have x7:=cell_of_row _ _ 7 _ _ _ HEF.out
   have x8:=cell_of_row _ _ 8 _ _ _ HEF.out
   have y0:=cell_of_row _ _ 0 _ _ _ HE0.out
   have z0:=frozen_of_row _ _ 0 _ _ HE0.out
   have y1:=cell_of_row _ _ 1 _ _ _ HE0.out
   have z1:=frozen_of_row _ _ 1 _ _ HE0.out
   have y2:=cell_of_row _ _ 2 _ _ _ HE0.out
   have z2:=frozen_of_row _ _ 2 _ _ HE0.out
   have y3:=cell_of_row _ _ 3 _ _ _ HE0.out
   have z3:=frozen_of_row _ _ 3 _ _ HE0.out
   have y4:=cell_of_row _ _ 4 _ _ _ HE0.out
   have z4:=frozen_of_row _ _ 4 _ _ HE0.out
   have y5:=cell_of_row _ _ 5 _ _ _ HE0.out
   have z5:=frozen_of_row _ _ 5 _ _ HE0.out
   have y6:=cell_of_row _ _ 6 _ _ _ HE0.out
   have z6:=frozen_of_row _ _ 6 _ _ HE0.out
   have y7:=cell_of_row _ _ 7 _ _ _ HE0.out
   have z7:=frozen_of_row _ _ 7 _ _ HE0.out
   have y8:=cell_of_row _ _ 8 _ _ _ HE0.out
   have z8:=frozen_of_row _ _ 8 _ _ HE0.out
   clear q0 q1 q2 h2
   go_wp2_with fail
   refine bodyPost_ret (results_row3 rfl _ _ w.heap.size #[.int .i64 0,.int .i64 0,.int .i64 0,.int .i64 0,.int .i64 0,.int .i64 0,.bool false,.slice none 0 0,.slice none 0 0] rfl (run_loadVar_row _ _ 44 44 _ (0,0) _ (put9_heap (.int .i64 0) (.int .i64 0) (.int .i64 0) (.int .i64 0) (.int .i64 0) (.int .i64 0) (.bool false) (.slice none 0 0) (.slice none 0 0) HE0.out) Tryd.underlying44 rfl (by kernel_rfl))) rfl ?_
   exact ⟨HBE.out.trans (grown_below (put9_grown _ _ _ _ _ _ _ _ _ _ _) HBE.out.size (Nat.le_refl _)),fun _=>⟨⟨0,0,0,0,0,0,false,[],[]⟩,none,0,0,none,0,0,2,by decide,rfl⟩,fun f r h=>by rw [HFN.out] at h;cases h⟩
  ·have hi1:¬ (v:Int)<1:=by omega
   have hi2:(12:Int)<(v:Int):=by omega
   clear hv hv1
   have HE0:=Lib.hid q0
   have HEF:=Lib.hid q1
   have HBE:=Lib.hid q2
   have x0:=cell_of_row _ _ 0 _ _ _ HEF.out
   have x1:=cell_of_row _ _ 1 _ _ _ HEF.out
   have x2:=cell_of_row _ _ 2 _ _ _ HEF.out
   have x3:=cell_of_row _ _ 3 _ _ _ HEF.out
   have x4:=cell_of_row _ _ 4 _ _ _ HEF.out
   have x5:=cell_of_row _ _ 5 _ _ _ HEF.out
   have x6:=cell_of_row _ _ 6 _ _ _ HEF.out
   have x7:=cell_of_row _ _ 7 _ _ _ HEF.out
   have x8:=cell_of_row _ _ 8 _ _ _ HEF.out
   have y0:=cell_of_row _ _ 0 _ _ _ HE0.out
   have z0:=frozen_of_row _ _ 0 _ _ HE0.out
   have y1:=cell_of_row _ _ 1 _ _ _ HE0.out
   have z1:=frozen_of_row _ _ 1 _ _ HE0.out
   have y2:=cell_of_row _ _ 2 _ _ _ HE0.out
   have z2:=frozen_of_row _ _ 2 _ _ HE0.out
   have y3:=cell_of_row _ _ 3 _ _ _ HE0.out
   have z3:=frozen_of_row _ _ 3 _ _ HE0.out
   have y4:=cell_of_row _ _ 4 _ _ _ HE0.out
   have z4:=frozen_of_row _ _ 4 _ _ HE0.out
   have y5:=cell_of_row _ _ 5 _ _ _ HE0.out
   have z5:=frozen_of_row _ _ 5 _ _ HE0.out
   have y6:=cell_of_row _ _ 6 _ _ _ HE0.out
   have z6:=frozen_of_row _ _ 6 _ _ HE0.out
   have y7:=cell_of_row _ _ 7 _ _ _ HE0.out
   have z7:=frozen_of_row _ _ 7 _ _ HE0.out
   have y8:=cell_of_row _ _ 8 _ _ _ HE0.out
   have z8:=frozen_of_row _ _ 8 _ _ HE0.out
   clear q0 q1 q2 h2
   go_wp2_with fail
   refine bodyPost_ret (results_row3 rfl _ _ w.heap.size #[.int .i64 0,.int .i64 0,.int .i64 0,.int .i64 0,.int .i64 0,.int .i64 0,.bool false,.slice none 0 0,.slice none 0 0] rfl (run_loadVar_row _ _ 44 44 _ (0,0) _ (put9_heap (.int .i64 0) (.int .i64 0) (.int .i64 0) (.int .i64 0) (.int .i64 0) (.int .i64 0) (.bool false) (.slice none 0 0) (.slice none 0 0) HE0.out) Tryd.underlying44 rfl (by kernel_rfl))) rfl ?_
   exact ⟨HBE.out.trans (grown_below (put9_grown _ _ _ _ _ _ _ _ _ _ _) HBE.out.size (Nat.le_refl _)),fun _=>⟨⟨0,0,0,0,0,0,false,[],[]⟩,none,0,0,none,0,0,2,by decide,rfl⟩,fun f r h=>by rw [HFN.out] at h;cases h⟩
theorem rread_any (bs:List Nat) (B:Nat) (A:Option Addr) (cap:Nat) (w:World) (hx:Rd w B A bs.length (bv bs)) (hB:B≤w.heap.size) (hb:∀ c ∈ bs,c<256) (hn:bs.length≤cap) (hm:bs.length≤1000000) :
  Calls Tryd.prog 59 #[.slice A bs.length cap] w (ReadRP bs w):=by
 cases hd:dec bs with
 | none=>exact rread_no bs B A cap w hx hB hb hn hm (.inl hd)
 | some p =>
   obtain ⟨k,W⟩:=p
   by_cases hk:k<1∨12<k
   ·exact rread_no bs B A cap w hx hB hb hn hm (.inr ⟨k,W,hd,hk⟩)
   ·have hc:k=1∨k=2∨k=3∨k=4∨k=5∨k=6∨k=7∨k=8∨k=9∨k=10∨k=11∨k=12:=by omega
    rcases hc with rfl | rfl | rfl | rfl | rfl | rfl | rfl | rfl | rfl | rfl | rfl | rfl
    ·exact rread_1 bs B A cap w hx hB hb hn hm W hd
    ·exact rread_2 bs B A cap w hx hB hb hn hm W hd
    ·exact rread_3 bs B A cap w hx hB hb hn hm W hd
    ·exact rread_4 bs B A cap w hx hB hb hn hm W hd
    ·exact rread_5 bs B A cap w hx hB hb hn hm W hd
    ·exact rread_6 bs B A cap w hx hB hb hn hm W hd
    ·exact rread_7 bs B A cap w hx hB hb hn hm W hd
    ·exact rread_8 bs B A cap w hx hB hb hn hm W hd
    ·exact rread_9 bs B A cap w hx hB hb hn hm W hd
    ·exact rread_10 bs B A cap w hx hB hb hn hm W hd
    ·exact rread_11 bs B A cap w hx hB hb hn hm W hd
    ·exact rread_12 bs B A cap w hx hB hb hn hm W hd
/-- What ReadFrames has made: the rest is still to read. -/
structure RfLp (w wr:World) (N:Nat) (y:List Fr × Rs) (acc:List Fr) (bs:List Nat) (v:Value) (A1:Option Addr) (c1:Nat):Prop where
 own:FrsOwn wr w.heap.size v acc
 rd:RdT wr wr.heap.size A1 bs.length bs
 cap:bs.length≤c1
 lt:∀ c ∈ bs,c<256
 le:acc.length+bs.length≤N
 eq:∃ m,bs.length≤m∧(acc ++ (readN m ⟨bs,0⟩).1,(readN m ⟨bs,0⟩).2)=y
 bel:Below w.heap.size w wr
def RFsP (y:List Fr × Rs) (w:World) (e:Ending) (w':World):Prop :=
 Below w.heap.size w w' ∧
 ((y.2.e=0∧∃ A c,e=.returned (.tuple #[.slice A y.1.length c,.int .i64 0])∧FrsOwn w' w.heap.size (.slice A y.1.length c) y.1) ∨
  (y.2.e≠0∧∃ er:Int,er≠0∧e=.returned (.tuple #[.slice none 0 0,.int .i64 er])))
theorem frameO_sub {bs r:List Nat} {f:Fr} (hb:∀ c ∈ bs,c<256) (h:frameO bs=some (f,r)):(∀ c ∈ r,c<256)∧frameR ⟨bs,0⟩=(f,⟨r,0⟩)∧r.length<bs.length:=by
 have hm:=frame_meets bs hb
 rw [h] at hm
 have hm:frameR ⟨bs,0⟩=(f,⟨r,0⟩):=hm
 refine ⟨fun c hc=>?_,hm,?_⟩
 ·unfold frameO at h
  cases hd:dec bs with
  | none=>simp only [hd] at h;cases h
  | some p =>
    obtain ⟨k,W⟩:=p
    simp only [hd] at h
    split at h
    ·cases h
    ·have hsub:∀ c ∈ r,c ∈ bs.drop W:=by
      unfold bodyO at h
      cases h1:nO (nbit (k:Int) 0) (bs.drop W) with
      | none=>simp only [h1] at h;cases h
      | some q1 =>
      obtain ⟨id,b1⟩:=q1
      simp only [h1] at h
      cases h2:nO (nbit (k:Int) 1) b1 with
      | none=>simp only [h2] at h;cases h
      | some q2 =>
      obtain ⟨a,b2⟩:=q2
      simp only [h2] at h
      cases h3:nO (nbit (k:Int) 2) b2 with
      | none=>simp only [h3] at h;cases h
      | some q3 =>
      obtain ⟨off,b3⟩:=q3
      simp only [h3] at h
      cases h4:nO (nbit (k:Int) 3) b3 with
      | none=>simp only [h4] at h;cases h
      | some q4 =>
      obtain ⟨b,b4⟩:=q4
      simp only [h4] at h
      cases h5:fO (nbit (k:Int) 4) b4 with
      | none=>simp only [h5] at h;cases h
      | some q5 =>
      obtain ⟨fin,b5⟩:=q5
      simp only [h5] at h
      cases h6:dO (nbit (k:Int) 5) b5 with
      | none=>simp only [h6] at h;cases h
      | some q6 =>
      obtain ⟨data,b6⟩:=q6
      simp only [h6] at h
      cases h7:sO (nbit (k:Int) 6) b6 with
      | none=>simp only [h7] at h;cases h
      | some q7 =>
      obtain ⟨es,b7⟩:=q7
      simp only [h7] at h
      split at h
      ·simp only [Option.some.injEq,Prod.mk.injEq] at h
       obtain ⟨_,rfl⟩:=h
       have s0:∀ c ∈ b6,c ∈ bs.drop W:=fun c hc=>nO_sub h1 c (nO_sub h2 c (nO_sub h3 c (nO_sub h4 c (fO_sub h5 c (dO_sub h6 c hc)))))
       have s7:∀ c ∈ b7,c ∈ b6:=by
        unfold sO at h7
        split at h7
        ·cases h7;exact fun c hc=>hc
        ·split at h7
         ·cases h7
         ·split at h7
          ·cases h7
          ·intro c hc
           exact List.mem_of_mem_drop ((runsO_in (fun c hc=>hb c (List.mem_of_mem_drop (s0 c (List.mem_of_mem_drop hc)))) _ _ h7).2.1 c hc)
       exact fun c hc=>s0 c (s7 c hc)
      ·cases h
     exact hb c (List.mem_of_mem_drop (hsub c hc))
 ·have:=frameR_lt ⟨bs,0⟩
  rw [hm] at this
  exact this rfl
theorem rframes_any (bs:List Nat) (B:Nat) (A:Option Addr) (cap:Nat) (w:World) (hx:Rd w B A bs.length (bv bs)) (hB:B≤w.heap.size) (hb:∀ c ∈ bs,c<256) (hn:bs.length≤cap) (hm:bs.length≤1000000) :
  Calls Tryd.prog 39 #[.slice A bs.length cap] w (RFsP (readN bs.length ⟨bs,0⟩) w):=by
 have HX:=Lib.hid hx
 obtain ⟨y,hy⟩:∃ y,Hid (readN bs.length ⟨bs,0⟩=y):=⟨_,Lib.hid rfl⟩
 rw [hy.out]
 obtain ⟨i0,hi,hz0,hz1,hz2⟩:=info_parts infoB
 have HIB:=Lib.hid (And.intro hi (And.intro hz0 (And.intro hz1 hz2)))
 obtain ⟨i1,hi',hz0',hz1',hz2'⟩:=info_parts infoFr
 have HI:=Lib.hid (And.intro hi' (And.intro hz0' (And.intro hz1' hz2')))
 have HLT:=Lib.hid hb
 have HM:=Lib.hid hm
 have HBB:=Lib.hid hB
 obtain ⟨N,hN⟩:∃ N,Hid (bs.length=N):=⟨_,rfl⟩
 clear hx hi hz0 hz1 hz2 hi' hz0' hz1' hz2' hB hb hn
 rw [hN.out] at hm ⊢
 have HXN:Hid (Rd w B A (N * 1) (bv bs)):=by have:=HX.out;rw [hN.out] at this;show Rd w B A (N * 1) (bv bs);rwa [Nat.mul_one]
 go_enter Tryd.func39,Tryd.ntmps39
 go_wp2_with (at_builtin;refine wpList_app _ rfl _ _ 24 rfl w.heap.size 5 i0 (.int .u8 0) 1 1 Tryd.underlying24 HIB.out.1 HIB.out.2.1 HIB.out.2.2.1 HIB.out.2.2.2 rfl (by decide) (.slice (some ⟨w.heap.size,0,none⟩) 0 0) 0 [] rfl (own_new w #[] 5 1 0 _ _ rfl rfl (by unfold maxLen;omega) (Nat.le_refl _)) B A N cap (bv bs) rfl (HXN.out.below ((Below.refl _ _).alloc (Nat.le_refl _) _) HBB.out) (ones_bv _) (by unfold maxLen;omega) (by omega) (by simp) ?_)
 intro v1 w1 hown1 hgrow1
 have HB1:Hid (Below w.heap.size w w1):=((Below.refl _ _).alloc (Nat.le_refl _) _).grown hgrow1 (by simp) (fun j hj=>by simp [Value.ownBlock] at hj;omega)
 try simp only [Nat.zero_add,List.nil_append] at hown1
 obtain ⟨A1,c1,rfl,g1,_,_,_⟩:=own_form hown1
 have HL0:Hid (RfLp w w1 N y [] bs (.slice none 0 0) A1 c1):=⟨FrsOwn.nil _ _,by rw [hN.out];exact RdT.of_own hown1,by rw [hN.out];exact g1,HLT.out,by have:=hN.out;simp only [List.length_nil];omega,⟨bs.length,Nat.le_refl _,by rw [← hy.out];rfl⟩,HB1.out⟩
 clear hown1 hgrow1 g1
 go_wp2_with fail
 go_loopw [4,5] (fun v rest wr=>∃ (acc:List Fr) (bs':List Nat) (A':Option Addr) (c':Nat) (A2:Option Addr) (c2:Nat),v=.slice A' acc.length c'∧rest=.slice A2 bs'.length c2∧Hid (RfLp w wr N y acc bs' (.slice A' acc.length c') A2 c2)) (fun v _ _=>N - lenV v)
 case atStart=>exact ⟨[],bs,none,0,A1,c1,rfl,by rw [hN.out],HL0⟩
 case round =>
  obtain ⟨acc,bs',A',c',A2,c2,rfl,rfl,HL⟩:=hrel
  clear HL0
  by_cases h0:bs'.length=0
  ·have HE:Hid (RFsP y w (.returned (.tuple #[.slice A' acc.length c',.int .i64 0])) wr):=by
    obtain ⟨m,_,hyy⟩:=HL.out.eq
    have hr:readN m ⟨bs',0⟩=([],⟨bs',0⟩):=by
     cases m with
     | zero=>rfl
     | succ m=>unfold readN;rw [if_pos h0]
    rw [hr,List.append_nil] at hyy
    rw [← hyy]
    exact ⟨HL.out.bel,.inl ⟨rfl,A',c',rfl,HL.out.own⟩⟩
   rw [h0]
   clear h0
   go_wp2_with fail
   go_ret2
   exact HE.out
  ·have h2i:(0:Int)<(bs'.length:Int):=by omega
   obtain ⟨m,hmb,hyy⟩:=HL.out.eq
   have hb1:=HL.out.le
   have HRR:=Lib.hid (rread_any bs' wr.heap.size A2 c2 wr HL.out.rd.1 (Nat.le_refl _) HL.out.lt HL.out.cap (by omega))
   have HLE:=Lib.hid hb1
   have HMB:=Lib.hid hmb
   have HYY:=Lib.hid hyy
   have H0:=Lib.hid h0
   obtain ⟨L,hL⟩:∃ L,Hid (bs'.length=L):=⟨_,rfl⟩
   rw [hL.out] at HRR h2i ⊢
   clear hmb hyy hb1 h0
   go_wp2_with fail
   refine HRR.out.mono ?_
   rintro e w2 ⟨hbw,hno,hyes⟩
   have HB2:Hid (Below w.heap.size w w2):=HL.out.bel.trans (hbw.mono HL.out.bel.size)
   cases hfo:frameO bs' with
   | none =>
     obtain ⟨f,Aa,na,ca,Ab,nb,cb,er,her,rfl⟩:=hno hfo
     have hmt:=frame_meets bs' HL.out.lt
     rw [hfo] at hmt
     have hmt:(frameR ⟨bs',0⟩).2.e≠0:=hmt
     have HE:Hid (∀ w',Below w.heap.size w w'→RFsP y w (.returned (.tuple #[.slice none 0 0,.int .i64 er])) w'):=fun w' hw=>by
      have h1:=HYY.out
      obtain ⟨m,rfl⟩:∃ m',m=m'+1:=⟨m - 1,by have:=H0.out;have:=HMB.out;omega⟩
      have hr:readN (m+1) ⟨bs',0⟩=([],(frameR ⟨bs',0⟩).2):=by
       show (if bs'.length=0 then _ else _)=_
       rw [if_neg H0.out,if_neg hmt]
      rw [hr] at h1
      rw [← h1]
      exact ⟨hw,.inr ⟨hmt,er,her,rfl⟩⟩
     unfold frA
     have hern:(er == 0)=false:=by simpa using her
     clear hno hyes hbw hfo hmt
     go_wp2_with fail
     go_ret2
     exact HE.out _ (HB2.out.alloc HB2.out.size _)
   | some q =>
     obtain ⟨f,r⟩:=q
     obtain ⟨Aa,na,ca,Ab,nb,cb,A3,c3,rfl,hdl,hsl,hn120,hn8,ho1,ho2,hc3,hr3⟩:=hyes f r hfo
     obtain ⟨hrlt,hfr,hrl⟩:=frameO_sub HL.out.lt hfo
     have HO2:Hid (FrsOwn w2 w.heap.size (.slice A' acc.length c') acc):=HL.out.own.below hbw
     have HC2:Hid (FrC w2 f (frC f (.slice Aa na ca) (.slice Ab nb cb))):=⟨Aa,na,ca,Ab,nb,cb,rfl,hdl,hsl,own_base ho1 (Nat.zero_le _),own_base ho2 (Nat.zero_le _)⟩
     have HR3:=Lib.hid hr3
     have HC3:=Lib.hid hc3
     have HRL:=Lib.hid hrlt
     have HLN:=Lib.hid hrl
     have HFR:=Lib.hid hfr
     unfold frA
     obtain ⟨ds,hds,hfds⟩:=HO2.out
     have HDS:=Lib.hid hds
     have HFDS:=Lib.hid hfds
     have hal:acc.length+1≤1000000:=by have:=HLE.out;have:=H0.out;omega
     have hb2:Hid (w.heap.size≤((w2.alloc (.cells #[.int .i64 f.k,.int .i64 f.id,.int .i64 f.off,.int .i64 f.a,.int .i64 f.b,.int .i64 f.note,.bool f.fin,.slice Aa na ca,.slice Ab nb cb] 44)).alloc (.cells #[.int .i64 f.k,.int .i64 f.id,.int .i64 f.off,.int .i64 f.a,.int .i64 f.b,.int .i64 f.note,.bool f.fin,.slice Aa na ca,.slice Ab nb cb] 44)).heap.size):=by have:=HB2.out.size;show _≤_;simp only [World.size_alloc];omega
     obtain ⟨L3,hL3⟩:∃ L,Hid (r.length=L):=⟨_,rfl⟩
     rw [hL3.out]
     clear hno hyes hbw hfo hdl hsl hn120 hn8 ho1 ho2 hc3 hr3 hrlt hfr hrl hds hfds
     go_wp2_with (at_builtin;refine wpList_app _ rfl (.tmp 24) (.tmp 26) 27 rfl w.heap.size 44 i1 (.agg #[.int .i64 0,.int .i64 0,.int .i64 0,.int .i64 0,.int .i64 0,.int .i64 0,.bool false,.slice none 0 0,.slice none 0 0]) 9 104 Tryd.underlying27 HI.out.1 HI.out.2.1 HI.out.2.2.1 HI.out.2.2.2 rfl (by decide) (.slice A' acc.length c') acc.length ds rfl ((HDS.out.alloc _).alloc _) ((w2.alloc (.cells #[.int .i64 f.k,.int .i64 f.id,.int .i64 f.off,.int .i64 f.a,.int .i64 f.b,.int .i64 f.note,.bool f.fin,.slice Aa na ca,.slice Ab nb cb] 44)).heap.size+1) (some ⟨(w2.alloc (.cells #[.int .i64 f.k,.int .i64 f.id,.int .i64 f.off,.int .i64 f.a,.int .i64 f.b,.int .i64 f.note,.bool f.fin,.slice Aa na ca,.slice Ab nb cb] 44)).heap.size,0,none⟩) 1 1 (frC f (.slice Aa na ca) (.slice Ab nb cb)) (by simp [Act.eval]) (rd_new _ _ _ _ _ _ _ rfl (Nat.lt_succ_self _) rfl rfl) HC2.out.ones (by unfold maxLen;omega) (by omega) hb2.out ?_)
     intro v5 w5 hown1 hgrow1
     obtain ⟨A5,c5,e5,_⟩:=own_form hown1
     subst e5
     have HNX:Hid (RfLp w w5 N y (acc ++ [f]) r (.slice A5 (acc ++ [f]).length c5) A3 c3):=by
      have hlen:(acc ++ [f]).length=acc.length+1:=by simp
      refine ⟨?_,?_,HC3.out,HRL.out,by rw [hlen];have:=HLN.out;have:=HLE.out;omega,?_,((HB2.out.alloc HB2.out.size _).alloc (by rw [World.size_alloc];exact Nat.le_succ_of_le HB2.out.size) _).grown hgrow1 hb2.out (fun g hg=>(HDS.out.lt g hg).1)⟩
      ·rw [hlen]
       exact FrsOwn.push (HDS.out.alloc _) (HFDS.out.below ((Below.refl _ _).alloc (Nat.le_refl _) _)) (HC2.out.below ((Below.refl _ _).alloc (Nat.le_refl _) _)) hown1 hgrow1
      ·have hba:=((Below.refl w2.heap.size w2).alloc (Nat.le_refl _) (.cells #[.int .i64 f.k,.int .i64 f.id,.int .i64 f.off,.int .i64 f.a,.int .i64 f.b,.int .i64 f.note,.bool f.fin,.slice Aa na ca,.slice Ab nb cb] 44)).alloc (by simp) (.cells #[.int .i64 f.k,.int .i64 f.id,.int .i64 f.off,.int .i64 f.a,.int .i64 f.b,.int .i64 f.note,.bool f.fin,.slice Aa na ca,.slice Ab nb cb] 44)
       have h1:=((HR3.out.below hba (Nat.le_refl _)).more hba.size).keep hgrow1 (fun k hk=>by
        obtain ⟨cur,fr,hh⟩:=own_cells ((HDS.out.alloc (.cells #[.int .i64 f.k,.int .i64 f.id,.int .i64 f.off,.int .i64 f.a,.int .i64 f.b,.int .i64 f.note,.bool f.fin,.slice Aa na ca,.slice Ab nb cb] 44)).alloc (.cells #[.int .i64 f.k,.int .i64 f.id,.int .i64 f.off,.int .i64 f.a,.int .i64 f.b,.int .i64 f.note,.bool f.fin,.slice Aa na ca,.slice Ab nb cb] 44)) k hk
        exact ⟨cur,fr,_,hh,by decide⟩)
       exact h1.more hgrow1.size
      ·obtain ⟨m,rfl⟩:∃ m',m=m'+1:=⟨m - 1,by have:=H0.out;have:=HMB.out;omega⟩
       refine ⟨m,by have:=HMB.out;have:=HLN.out;omega,?_⟩
       have h1:=HYY.out
       have hr:readN (m+1) ⟨bs',0⟩=(f :: (readN m ⟨r,0⟩).1,(readN m ⟨r,0⟩).2):=by
        show (if bs'.length=0 then _ else _)=_
        rw [if_neg H0.out,HFR.out,if_pos rfl]
       rw [hr] at h1
       rw [← h1]
       simp
     clear hown1 hgrow1
     go_wp2_with fail
     go_roundw
     case rel=>exact ⟨acc ++ [f],r,A5,c5,A3,c3,by simp,by rw [hL3.out],HNX⟩
     case measure=>simp [lenV];have:=HLE.out;have:=H0.out;omega
end Go.Proofs.YtccljifichaieaaDoor.Rv
