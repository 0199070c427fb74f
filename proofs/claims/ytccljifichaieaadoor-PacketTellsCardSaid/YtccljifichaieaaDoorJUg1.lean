/- Joined texts. Conditions: as each theorem lists them. -/
import Derived.Test.YtccljifichaieaaDoorJUf
import Derived.BigQuiet
import Derived.Outline
import Derived.BigGuard
import Derived.Deep.DeepCutAuto
set_option linter.unusedSimpArgs false
set_option linter.unusedVariables false
set_option maxRecDepth 100000
set_option maxHeartbeats 8000000
namespace Go.Proofs.YtccljifichaieaaDoor.Rv
open Go Go.RowKit
theorem rread_1 (bs:List Nat) (B:Nat) (A:Option Addr) (cap:Nat) (w:World) (hx:Rd w B A bs.length (bv bs)) (hB:B≤w.heap.size) (hb:∀ c ∈ bs,c<256) (hn:bs.length≤cap) (hm:bs.length≤1000000) (W:Nat) (hd:dec bs=some (1,W)) :
  Calls Tryd.prog 59 #[.slice A bs.length cap] w (ReadRP bs w):=by
 have HT0:Hid (∀ W',Below w.heap.size w W'→Calls Tryd.prog 79 #[.slice A bs.length cap] W' fun e w'=>TakeP bs W' e w'):=fun W' h=>rtake_any bs B A cap W' (hx.below h hB) (Nat.le_trans hB h.size) hb hn (by omega)
 have HLD:Hid ((bs.drop W).length=bs.length - W):=by show _=_;rw [List.length_drop]
 have HBD:Hid (∀ c ∈ bs.drop W,c<256):=fun c hc=>hb c (List.mem_of_mem_drop hc)
 have HLM:Hid ((bs.drop W).length≤1000000):=by show _≤_;rw [List.length_drop];omega
 obtain ⟨ds,hds⟩:∃ ds,bs.drop W=ds:=⟨_,rfl⟩
 have HFO:=Lib.hid (frameO_1 hd hds)
 rw [hds] at HLD HBD HLM
 have hds:=Lib.hid hds
 have hd:=Lib.hid hd
 have hix:∀ w,(Instr.index 102 (.agg #[.int .i64 0,.int .i64 0,.int .i64 0,.int .i64 3,.int .i64 4,.int .i64 2,.int .i64 1,.int .i64 2,.int .i64 2,.int .i64 0,.int .i64 1,.int .i64 1,.int .i64 1]) (.int .i64 1)).run Tryd.prog w=.ok (.int .i64 0) w:=fun _=>by kernel_rfl
 clear hx hB hb hn
 go_enter Tryd.func59,Tryd.ntmps59
 go_wp2_with fail
 refine (HT0.out _ (((Below.refl _ _).alloc (Nat.le_refl _) _).alloc (by simp) _)).mono ?_
 rintro e w1 (⟨h1,_⟩ | ⟨v,V,v',h1,rfl,h3,h2⟩)
 ·rw [hd.out] at h1;cases h1
 ·rw [hd.out] at h1
  cases h1
  rw [← HLD.out,hds.out] at h3
  obtain ⟨A',c',rfl,g1,_,_,_⟩:=own_form h3
  rw [show ((1:Nat):Int)=1 from rfl]
  have hz:((w.alloc (.cells #[.int .i64 0,.int .i64 0,.int .i64 0,.int .i64 0,.int .i64 0,.int .i64 0,.bool false,.slice none 0 0,.slice none 0 0] 44)).alloc (.cells #[.int .i64 0,.int .i64 0,.int .i64 0,.int .i64 0,.int .i64 0,.int .i64 0,.bool false,.slice none 0 0,.slice none 0 0] 44)).heap.size=w.heap.size+1+1:=by simp
  rw [hz] at h2
  have hb0:w1.heap[w.heap.size]?=some (.cells #[.int .i64 0,.int .i64 0,.int .i64 0,.int .i64 0,.int .i64 0,.int .i64 0,.bool false,.slice none 0 0,.slice none 0 0] 44 (0,0)):=by
   rw [h2.block w.heap.size (by omega),heap_alloc_old _ _ (by simp)];exact heap_alloc_new _ _
  have hbf:w1.heap[w.heap.size+1]?=some (.cells #[.int .i64 0,.int .i64 0,.int .i64 0,.int .i64 0,.int .i64 0,.int .i64 0,.bool false,.slice none 0 0,.slice none 0 0] 44 (0,0)):=by
   rw [h2.block (w.heap.size+1) (by omega)]
   have:=heap_alloc_new (w.alloc (.cells #[.int .i64 0,.int .i64 0,.int .i64 0,.int .i64 0,.int .i64 0,.int .i64 0,.bool false,.slice none 0 0,.slice none 0 0] 44)) (.cells #[.int .i64 0,.int .i64 0,.int .i64 0,.int .i64 0,.int .i64 0,.int .i64 0,.bool false,.slice none 0 0,.slice none 0 0] 44)
   simpa using this
  have hs1:Hid (w.heap.size+1<w1.heap.size):=by have:=h2.size;rw [hz] at this;show _<_;omega
  have HB1:Hid (Below w.heap.size w w1):=(((Below.refl _ _).alloc (Nat.le_refl _) _).alloc (by simp) _).trans (h2.mono (by omega))
  have c0:=cell_of_row _ _ 0 _ _ _ hbf
  have f0:=frozen_of_row _ _ 0 _ _ hbf
  have HS0:Hid (RdLp w ((w1.setCell ⟨w.heap.size+1,0,none⟩ (.int .i64 1)).alloc (.cells #[.int .i64 0,.int .i64 0,.int .i64 0,.int .i64 0] 103)) 9 ds 0 [] ds A' c' w1.heap.size 1):=by
   have hsz:(w1.setCell ⟨w.heap.size+1,0,none⟩ (.int .i64 1)).heap.size=w1.heap.size:=by simp [World.setCell]
   have hbs:Below w1.heap.size (w1.setCell ⟨w.heap.size+1,0,none⟩ (.int .i64 1)) ((w1.setCell ⟨w.heap.size+1,0,none⟩ (.int .i64 1)).alloc (.cells #[.int .i64 0,.int .i64 0,.int .i64 0,.int .i64 0] 103)):=(Below.refl _ _).alloc (by rw [hsz];exact Nat.le_refl _) _
   refine ⟨rfl,?_,g1,?_,?_,?_,?_⟩
   ·exact own_base ((own_put9 h3 (grown_set (o:=0) (.int .i64 1)) hbf (by decide)).alloc _) (by rw [hz];omega)
   ·rw [hbs.block _ (by have:=hs1.out;omega),heap_setCell_other _ _ _ _ (by show w.heap.size≠w.heap.size+1;omega)];exact hb0
   ·rw [hbs.block _ hs1.out];exact heap_setCell_same _ _ _ _ _ _ hbf
   ·have:=heap_alloc_new (w1.setCell ⟨w.heap.size+1,0,none⟩ (.int .i64 1)) (.cells #[.int .i64 0,.int .i64 0,.int .i64 0,.int .i64 0] 103)
    rw [hsz] at this
    exact this
   ·exact (HB1.out.trans (grown_below (grown_set _) HB1.out.size (by omega))).trans (hbs.mono (by have:=hs1.out;omega))
  clear h2 h3 g1 hz hb0 hbf HT0
  go_wp2_with fail
  obtain ⟨gl,hgl⟩:∃ x,Hid (w1.heap.size=x):=⟨_,rfl⟩
  rw [hgl.out] at HS0 hs1
  rw [hgl.out]
  go_loopw [7,11] (fun rest i wr=>∃ (j:Nat) (ns:List Int) (r:List Nat) (A1:Option Addr) (c1:Nat),j≤0∧rest=.slice A1 r.length c1∧i=.int .i64 (j:Int)∧Hid (RdLp w wr 9 ds j ns r A1 c1 gl 1)) (fun _ i _=>0 - (intOf i).toNat)
  case atStart=>exact ⟨0,[],ds,A',c',by omega,rfl,rfl,HS0⟩
  case round =>
   obtain ⟨j,ns,r,A1,c1,hj,rfl,rfl,HK⟩:=hrel
   obtain ⟨nl,nsub,nlen⟩:=numsO_in j _ HK.out.run
   simp only at nl nsub nlen
   have HBR:Hid (∀ c ∈ r,c<256):=fun c hc=>HBD.out c (nsub c hc)
   have HLR:Hid (r.length≤1000000):=Nat.le_trans nlen HLM.out
   have HT:=Lib.hid (rtake_any r wr.heap.size A1 c1 wr (RdT.of_own HK.out.own).1 (Nat.le_refl _) HBR.out HK.out.cap (by have:=HLR.out;omega))
   clear nsub nlen HS0
   have hjc:j=0:=by omega
   clear hj
   rcases hjc with rfl
   ·skip
    obtain rfl:ns=[]:=List.eq_nil_of_length_eq_zero nl
    clear nl
    rw [show ((0:Nat):Int)=0 from rfl]
    have hlc:wr.heap[gl]?=some (.cells #[.int .i64 0,.int .i64 0,.int .i64 0,.int .i64 0] 103 (0,0)):=HK.out.hl
    have k0:=cell_of_row _ _ 0 _ _ _ hlc
    have k1:=cell_of_row _ _ 1 _ _ _ hlc
    have k2:=cell_of_row _ _ 2 _ _ _ hlc
    have k3:=cell_of_row _ _ 3 _ _ _ hlc
    have x0:=cell_of_row _ _ 0 _ _ _ HK.out.hf
    have x1:=cell_of_row _ _ 1 _ _ _ HK.out.hf
    have x2:=cell_of_row _ _ 2 _ _ _ HK.out.hf
    have x3:=cell_of_row _ _ 3 _ _ _ HK.out.hf
    have x4:=cell_of_row _ _ 4 _ _ _ HK.out.hf
    have x5:=cell_of_row _ _ 5 _ _ _ HK.out.hf
    have x6:=cell_of_row _ _ 6 _ _ _ HK.out.hf
    have x7:=cell_of_row _ _ 7 _ _ _ HK.out.hf
    have x8:=cell_of_row _ _ 8 _ _ _ HK.out.hf
    clear HT
    have HG0:Hid (wr.heap[w.heap.size]?=some (.cells #[.int .i64 0,.int .i64 0,.int .i64 0,.int .i64 0,.int .i64 0,.int .i64 0,.bool false,.slice none 0 0,.slice none 0 0] 44 (0,0))):=by show wr.heap[w.heap.size]?=_;exact HK.out.h0
    have HGF:Hid (wr.heap[w.heap.size+1]?=some (.cells #[.int .i64 1,.int .i64 0,.int .i64 0,.int .i64 0,.int .i64 0,.int .i64 0,.bool false,.slice none 0 0,.slice none 0 0] 44 (0,0))):=HK.out.hf
    have HBW:Hid (Below w.heap.size w wr):=HK.out.bel
    have HRD:Hid (RdT wr wr.heap.size A1 r.length r):=RdT.of_own (HK.out.own)
    have HRF:Hid (Calls Tryd.prog 51 #[.agg #[.int .i64 1,.int .i64 0,.int .i64 0,.int .i64 0,.int .i64 0,.int .i64 0,.bool false,.slice none 0 0,.slice none 0 0]] wr fun e w'=>e=.returned (.bool (rightB (⟨1,0,0,0,0,0,false,[],[]⟩:Fr)))∧Below wr.heap.size wr w'):=rright_any (⟨1,0,0,0,0,0,false,[],[]⟩:Fr) none 0 0 none 0 0 _ ⟨rfl,Nat.le_refl _,Rd.nil _ _ _,rfl,Nat.le_refl _,Rd.nil _ _ _⟩ (fun c hc=>by cases hc)
    obtain ⟨rb,hrb⟩:∃ x,Hid (rightB (⟨1,0,0,0,0,0,false,[],[]⟩:Fr)=x):=⟨_,rfl⟩
    rw [hrb.out] at HRF
    obtain ⟨LR,hLR⟩:∃ L,Hid (r.length=L):=⟨_,rfl⟩
    rw [hLR.out]
    go_wp2_with fail
    refine HRF.out.mono ?_
    rintro e w5 ⟨rfl,hb5⟩
    have HH0:Hid (w5.heap[w.heap.size]?=some (.cells #[.int .i64 0,.int .i64 0,.int .i64 0,.int .i64 0,.int .i64 0,.int .i64 0,.bool false,.slice none 0 0,.slice none 0 0] 44 (0,0))):=(hb5.block _ (Array.getElem?_eq_some_iff.1 HG0.out).1).trans HG0.out
    have HHF:Hid (w5.heap[w.heap.size+1]?=some (.cells #[.int .i64 1,.int .i64 0,.int .i64 0,.int .i64 0,.int .i64 0,.int .i64 0,.bool false,.slice none 0 0,.slice none 0 0] 44 (0,0))):=(hb5.block _ (Array.getElem?_eq_some_iff.1 HGF.out).1).trans HGF.out
    have HB5:Hid (Below w.heap.size w w5):=HBW.out.trans (hb5.mono HBW.out.size)
    have HR5:Hid (RdT w5 w5.heap.size A1 r.length r):=(HRD.out.below hb5 (Nat.le_refl _)).more hb5.size
    clear hb5
    cases rb
    ·skip
     have HE0:Hid (w5.heap[w.heap.size]?=some (.cells #[.int .i64 0,.int .i64 0,.int .i64 0,.int .i64 0,.int .i64 0,.int .i64 0,.bool false,.slice none 0 0,.slice none 0 0] 44 (0,0))):=HH0.out
     have HEF:Hid (w5.heap[w.heap.size+1]?=some (.cells #[.int .i64 1,.int .i64 0,.int .i64 0,.int .i64 0,.int .i64 0,.int .i64 0,.bool false,.slice none 0 0,.slice none 0 0] 44 (0,0))):=HHF.out
     have HBE:Hid (Below w.heap.size w w5):=HB5.out
     have HFN:Hid (frameO bs=none):=by show frameO bs=none;rw [HFO.out,HK.out.run];exact okO_no hrb.out
     have x0:=cell_of_row _ _ 0 _ _ _ HEF.out
     have x1:=cell_of_row _ _ 1 _ _ _ HEF.out
     have x2:=cell_of_row _ _ 2 _ _ _ HEF.out
     have x3:=cell_of_row _ _ 3 _ _ _ HEF.out
     have x4:=cell_of_row _ _ 4 _ _ _ HEF.out
     have x5:=cell_of_row _ _ 5 _ _ _ HEF.out
     have x6:=cell_of_row _ _ 6 _ _ _ HEF.out
     have x7:=cell_of_row _ _ 7 _ _ _ HEF.out
     have x8:=cell_of_row _ _ 8 _ _ _ HEF.out
     have y0:=cell_of_row _ _ 0 _ _ _ HE0.out
     have z0:=frozen_of_row _ _ 0 _ _ HE0.out
     have y1:=cell_of_row _ _ 1 _ _ _ HE0.out
     have z1:=frozen_of_row _ _ 1 _ _ HE0.out
     have y2:=cell_of_row _ _ 2 _ _ _ HE0.out
     have z2:=frozen_of_row _ _ 2 _ _ HE0.out
     have y3:=cell_of_row _ _ 3 _ _ _ HE0.out
     have z3:=frozen_of_row _ _ 3 _ _ HE0.out
     have y4:=cell_of_row _ _ 4 _ _ _ HE0.out
     have z4:=frozen_of_row _ _ 4 _ _ HE0.out
     have y5:=cell_of_row _ _ 5 _ _ _ HE0.out
     have z5:=frozen_of_row _ _ 5 _ _ HE0.out
     have y6:=cell_of_row _ _ 6 _ _ _ HE0.out
     have z6:=frozen_of_row _ _ 6 _ _ HE0.out
     have y7:=cell_of_row _ _ 7 _ _ _ HE0.out
     have z7:=frozen_of_row _ _ 7 _ _ HE0.out
     have y8:=cell_of_row _ _ 8 _ _ _ HE0.out
     have z8:=frozen_of_row _ _ 8 _ _ HE0.out
     skip
     go_wp2_with fail
     refine bodyPost_ret (results_row3 rfl _ _ w.heap.size #[.int .i64 1,.int .i64 0,.int .i64 0,.int .i64 0,.int .i64 0,.int .i64 0,.bool false,.slice none 0 0,.slice none 0 0] rfl (run_loadVar_row _ _ 44 44 _ (0,0) _ (put9_heap (.int .i64 1) (.int .i64 0) (.int .i64 0) (.int .i64 0) (.int .i64 0) (.int .i64 0) (.bool false) (.slice none 0 0) (.slice none 0 0) HE0.out) Tryd.underlying44 rfl (by kernel_rfl))) rfl ?_
     exact ⟨HBE.out.trans (grown_below (put9_grown _ _ _ _ _ _ _ _ _ _ _) HBE.out.size (Nat.le_refl _)),fun _=>⟨(⟨1,0,0,0,0,0,false,[],[]⟩:Fr),none,0,0,none,0,0,2,by decide,rfl⟩,fun f r h=>by rw [HFN.out] at h;cases h⟩
    ·have HE0:=HH0
     have HEF:=HHF
     have x0:=cell_of_row _ _ 0 _ _ _ HEF.out
     have x1:=cell_of_row _ _ 1 _ _ _ HEF.out
     have x2:=cell_of_row _ _ 2 _ _ _ HEF.out
     have x3:=cell_of_row _ _ 3 _ _ _ HEF.out
     have x4:=cell_of_row _ _ 4 _ _ _ HEF.out
     have x5:=cell_of_row _ _ 5 _ _ _ HEF.out
     have x6:=cell_of_row _ _ 6 _ _ _ HEF.out
     have x7:=cell_of_row _ _ 7 _ _ _ HEF.out
     have x8:=cell_of_row _ _ 8 _ _ _ HEF.out
     have y0:=cell_of_row _ _ 0 _ _ _ HE0.out
     have z0:=frozen_of_row _ _ 0 _ _ HE0.out
     have y1:=cell_of_row _ _ 1 _ _ _ HE0.out
     have z1:=frozen_of_row _ _ 1 _ _ HE0.out
     have y2:=cell_of_row _ _ 2 _ _ _ HE0.out
     have z2:=frozen_of_row _ _ 2 _ _ HE0.out
     have y3:=cell_of_row _ _ 3 _ _ _ HE0.out
     have z3:=frozen_of_row _ _ 3 _ _ HE0.out
     have y4:=cell_of_row _ _ 4 _ _ _ HE0.out
     have z4:=frozen_of_row _ _ 4 _ _ HE0.out
     have y5:=cell_of_row _ _ 5 _ _ _ HE0.out
     have z5:=frozen_of_row _ _ 5 _ _ HE0.out
     have y6:=cell_of_row _ _ 6 _ _ _ HE0.out
     have z6:=frozen_of_row _ _ 6 _ _ HE0.out
     have y7:=cell_of_row _ _ 7 _ _ _ HE0.out
     have z7:=frozen_of_row _ _ 7 _ _ HE0.out
     have y8:=cell_of_row _ _ 8 _ _ _ HE0.out
     have z8:=frozen_of_row _ _ 8 _ _ HE0.out
     have HFS:Hid (frameO bs=some ((⟨1,0,0,0,0,0,false,[],[]⟩:Fr),r)):=by show frameO bs=_;rw [HFO.out,HK.out.run];exact okO_yes hrb.out
     go_wp2_with fail
     refine bodyPost_ret (results_row3 rfl _ _ w.heap.size #[.int .i64 1,.int .i64 0,.int .i64 0,.int .i64 0,.int .i64 0,.int .i64 0,.bool false,.slice none 0 0,.slice none 0 0] rfl (run_loadVar_row _ _ 44 44 _ (0,0) _ (put9_heap (.int .i64 1) (.int .i64 0) (.int .i64 0) (.int .i64 0) (.int .i64 0) (.int .i64 0) (.bool false) (.slice none 0 0) (.slice none 0 0) HE0.out) Tryd.underlying44 rfl (by kernel_rfl))) rfl ?_
     have hgr:=put9_grown w5 w.heap.size (.int .i64 1) (.int .i64 0) (.int .i64 0) (.int .i64 0) (.int .i64 0) (.int .i64 0) (.bool false) (.slice none 0 0) (.slice none 0 0)
     refine ⟨HB5.out.trans (grown_below hgr HB5.out.size (Nat.le_refl _)),fun h=>(by rw [HFS.out] at h;cases h),fun f r' h=>?_⟩
     rw [HFS.out] at h
     simp only [Option.some.injEq,Prod.mk.injEq] at h
     obtain ⟨rfl,rfl⟩:=h
     have hkeep:∀ k,some w.heap.size=some k→∃ cur fr e,w5.heap[k]?=some (.cells cur e fr)∧e≠5:=fun k hk=>by cases hk;exact ⟨_,_,_,HE0.out,by decide⟩
     exact ⟨none,0,0,none,0,0,A1,c1,by rw [hLR.out];rfl,rfl,rfl,by omega,by omega,own_nil _ _ _ _,own_nil _ _ _ _,HK.out.cap,(HR5.out.keep hgr hkeep).more hgr.size⟩
theorem rread_10 (bs:List Nat) (B:Nat) (A:Option Addr) (cap:Nat) (w:World) (hx:Rd w B A bs.length (bv bs)) (hB:B≤w.heap.size) (hb:∀ c ∈ bs,c<256) (hn:bs.length≤cap) (hm:bs.length≤1000000) (W:Nat) (hd:dec bs=some (10,W)) :
  Calls Tryd.prog 59 #[.slice A bs.length cap] w (ReadRP bs w):=by
 have HT0:Hid (∀ W',Below w.heap.size w W'→Calls Tryd.prog 79 #[.slice A bs.length cap] W' fun e w'=>TakeP bs W' e w'):=fun W' h=>rtake_any bs B A cap W' (hx.below h hB) (Nat.le_trans hB h.size) hb hn (by omega)
 have HLD:Hid ((bs.drop W).length=bs.length - W):=by show _=_;rw [List.length_drop]
 have HBD:Hid (∀ c ∈ bs.drop W,c<256):=fun c hc=>hb c (List.mem_of_mem_drop hc)
 have HLM:Hid ((bs.drop W).length≤1000000):=by show _≤_;rw [List.length_drop];omega
 obtain ⟨ds,hds⟩:∃ ds,bs.drop W=ds:=⟨_,rfl⟩
 have HFO:=Lib.hid (frameO_10 hd hds)
 rw [hds] at HLD HBD HLM
 have hds:=Lib.hid hds
 have hd:=Lib.hid hd
 have hix:∀ w,(Instr.index 102 (.agg #[.int .i64 0,.int .i64 0,.int .i64 0,.int .i64 3,.int .i64 4,.int .i64 2,.int .i64 1,.int .i64 2,.int .i64 2,.int .i64 0,.int .i64 1,.int .i64 1,.int .i64 1]) (.int .i64 10)).run Tryd.prog w=.ok (.int .i64 1) w:=fun _=>by kernel_rfl
 clear hx hB hb hn
 go_enter Tryd.func59,Tryd.ntmps59
 go_wp2_with fail
 refine (HT0.out _ (((Below.refl _ _).alloc (Nat.le_refl _) _).alloc (by simp) _)).mono ?_
 rintro e w1 (⟨h1,_⟩ | ⟨v,V,v',h1,rfl,h3,h2⟩)
 ·rw [hd.out] at h1;cases h1
 ·rw [hd.out] at h1
  cases h1
  rw [← HLD.out,hds.out] at h3
  obtain ⟨A',c',rfl,g1,_,_,_⟩:=own_form h3
  rw [show ((10:Nat):Int)=10 from rfl]
  have hz:((w.alloc (.cells #[.int .i64 0,.int .i64 0,.int .i64 0,.int .i64 0,.int .i64 0,.int .i64 0,.bool false,.slice none 0 0,.slice none 0 0] 44)).alloc (.cells #[.int .i64 0,.int .i64 0,.int .i64 0,.int .i64 0,.int .i64 0,.int .i64 0,.bool false,.slice none 0 0,.slice none 0 0] 44)).heap.size=w.heap.size+1+1:=by simp
  rw [hz] at h2
  have hb0:w1.heap[w.heap.size]?=some (.cells #[.int .i64 0,.int .i64 0,.int .i64 0,.int .i64 0,.int .i64 0,.int .i64 0,.bool false,.slice none 0 0,.slice none 0 0] 44 (0,0)):=by
   rw [h2.block w.heap.size (by omega),heap_alloc_old _ _ (by simp)];exact heap_alloc_new _ _
  have hbf:w1.heap[w.heap.size+1]?=some (.cells #[.int .i64 0,.int .i64 0,.int .i64 0,.int .i64 0,.int .i64 0,.int .i64 0,.bool false,.slice none 0 0,.slice none 0 0] 44 (0,0)):=by
   rw [h2.block (w.heap.size+1) (by omega)]
   have:=heap_alloc_new (w.alloc (.cells #[.int .i64 0,.int .i64 0,.int .i64 0,.int .i64 0,.int .i64 0,.int .i64 0,.bool false,.slice none 0 0,.slice none 0 0] 44)) (.cells #[.int .i64 0,.int .i64 0,.int .i64 0,.int .i64 0,.int .i64 0,.int .i64 0,.bool false,.slice none 0 0,.slice none 0 0] 44)
   simpa using this
  have hs1:Hid (w.heap.size+1<w1.heap.size):=by have:=h2.size;rw [hz] at this;show _<_;omega
  have HB1:Hid (Below w.heap.size w w1):=(((Below.refl _ _).alloc (Nat.le_refl _) _).alloc (by simp) _).trans (h2.mono (by omega))
  have c0:=cell_of_row _ _ 0 _ _ _ hbf
  have f0:=frozen_of_row _ _ 0 _ _ hbf
  have HS0:Hid (RdLp w ((w1.setCell ⟨w.heap.size+1,0,none⟩ (.int .i64 10)).alloc (.cells #[.int .i64 0,.int .i64 0,.int .i64 0,.int .i64 0] 103)) 9 ds 0 [] ds A' c' w1.heap.size 10):=by
   have hsz:(w1.setCell ⟨w.heap.size+1,0,none⟩ (.int .i64 10)).heap.size=w1.heap.size:=by simp [World.setCell]
   have hbs:Below w1.heap.size (w1.setCell ⟨w.heap.size+1,0,none⟩ (.int .i64 10)) ((w1.setCell ⟨w.heap.size+1,0,none⟩ (.int .i64 10)).alloc (.cells #[.int .i64 0,.int .i64 0,.int .i64 0,.int .i64 0] 103)):=(Below.refl _ _).alloc (by rw [hsz];exact Nat.le_refl _) _
   refine ⟨rfl,?_,g1,?_,?_,?_,?_⟩
   ·exact own_base ((own_put9 h3 (grown_set (o:=0) (.int .i64 10)) hbf (by decide)).alloc _) (by rw [hz];omega)
   ·rw [hbs.block _ (by have:=hs1.out;omega),heap_setCell_other _ _ _ _ (by show w.heap.size≠w.heap.size+1;omega)];exact hb0
   ·rw [hbs.block _ hs1.out];exact heap_setCell_same _ _ _ _ _ _ hbf
   ·have:=heap_alloc_new (w1.setCell ⟨w.heap.size+1,0,none⟩ (.int .i64 10)) (.cells #[.int .i64 0,.int .i64 0,.int .i64 0,.int .i64 0] 103)
    rw [hsz] at this
    exact this
   ·exact (HB1.out.trans (grown_below (grown_set _) HB1.out.size (by omega))).trans (hbs.mono (by have:=hs1.out;omega))
  clear h2 h3 g1 hz hb0 hbf HT0
  go_wp2_with fail
  obtain ⟨gl,hgl⟩:∃ x,Hid (w1.heap.size=x):=⟨_,rfl⟩
  rw [hgl.out] at HS0 hs1
  rw [hgl.out]
  go_loopw [7,11] (fun rest i wr=>∃ (j:Nat) (ns:List Int) (r:List Nat) (A1:Option Addr) (c1:Nat),j≤1∧rest=.slice A1 r.length c1∧i=.int .i64 (j:Int)∧Hid (RdLp w wr 9 ds j ns r A1 c1 gl 10)) (fun _ i _=>1 - (intOf i).toNat)
  case atStart=>exact ⟨0,[],ds,A',c',by omega,rfl,rfl,HS0⟩
  case round =>
   obtain ⟨j,ns,r,A1,c1,hj,rfl,rfl,HK⟩:=hrel
   obtain ⟨nl,nsub,nlen⟩:=numsO_in j _ HK.out.run
   simp only at nl nsub nlen
   have HBR:Hid (∀ c ∈ r,c<256):=fun c hc=>HBD.out c (nsub c hc)
   have HLR:Hid (r.length≤1000000):=Nat.le_trans nlen HLM.out
   have HT:=Lib.hid (rtake_any r wr.heap.size A1 c1 wr (RdT.of_own HK.out.own).1 (Nat.le_refl _) HBR.out HK.out.cap (by have:=HLR.out;omega))
   clear nsub nlen HS0
   have hjc:j=0∨j=1:=by omega
   clear hj
   rcases hjc with rfl | rfl
   ·skip
    obtain rfl:ns=[]:=List.eq_nil_of_length_eq_zero nl
    clear nl
    rw [show ((0:Nat):Int)=0 from rfl]
    have hlc:wr.heap[gl]?=some (.cells #[.int .i64 0,.int .i64 0,.int .i64 0,.int .i64 0] 103 (0,0)):=HK.out.hl
    obtain ⟨L,hL⟩:∃ L,Hid (r.length=L):=⟨_,rfl⟩
    rw [hL.out] at HT ⊢
    go_wp2_with fail
    refine HT.out.mono ?_
    rintro e w2 (⟨h1,rfl,h2⟩ | ⟨v,V,v',h1,rfl,h3,h2⟩)
    ·skip
     have HE0:Hid (w2.heap[w.heap.size]?=some (.cells #[.int .i64 0,.int .i64 0,.int .i64 0,.int .i64 0,.int .i64 0,.int .i64 0,.bool false,.slice none 0 0,.slice none 0 0] 44 (0,0))):=(h2.block _ (Array.getElem?_eq_some_iff.1 HK.out.h0).1).trans HK.out.h0
     have HEF:Hid (w2.heap[w.heap.size+1]?=some (.cells #[.int .i64 10,.int .i64 0,.int .i64 0,.int .i64 0,.int .i64 0,.int .i64 0,.bool false,.slice none 0 0,.slice none 0 0] 44 (0,0))):=(h2.block _ (Array.getElem?_eq_some_iff.1 HK.out.hf).1).trans HK.out.hf
     have HBE:Hid (Below w.heap.size w w2):=HK.out.bel.trans (h2.mono HK.out.bel.size)
     have HFN:Hid (frameO bs=none):=by show frameO bs=none;rw [HFO.out,numsO_no (show 0<1 by omega) (numsO_stop HK.out.run h1)]
     have x0:=cell_of_row _ _ 0 _ _ _ HEF.out
     have x1:=cell_of_row _ _ 1 _ _ _ HEF.out
     have x2:=cell_of_row _ _ 2 _ _ _ HEF.out
     have x3:=cell_of_row _ _ 3 _ _ _ HEF.out
     have x4:=cell_of_row _ _ 4 _ _ _ HEF.out
     have x5:=cell_of_row _ _ 5 _ _ _ HEF.out
     have x6:=cell_of_row _ _ 6 _ _ _ HEF.out
     have x7:=cell_of_row _ _ 7 _ _ _ HEF.out
     have x8:=cell_of_row _ _ 8 _ _ _ HEF.out
     have y0:=cell_of_row _ _ 0 _ _ _ HE0.out
     have z0:=frozen_of_row _ _ 0 _ _ HE0.out
     have y1:=cell_of_row _ _ 1 _ _ _ HE0.out
     have z1:=frozen_of_row _ _ 1 _ _ HE0.out
     have y2:=cell_of_row _ _ 2 _ _ _ HE0.out
     have z2:=frozen_of_row _ _ 2 _ _ HE0.out
     have y3:=cell_of_row _ _ 3 _ _ _ HE0.out
     have z3:=frozen_of_row _ _ 3 _ _ HE0.out
     have y4:=cell_of_row _ _ 4 _ _ _ HE0.out
     have z4:=frozen_of_row _ _ 4 _ _ HE0.out
     have y5:=cell_of_row _ _ 5 _ _ _ HE0.out
     have z5:=frozen_of_row _ _ 5 _ _ HE0.out
     have y6:=cell_of_row _ _ 6 _ _ _ HE0.out
     have z6:=frozen_of_row _ _ 6 _ _ HE0.out
     have y7:=cell_of_row _ _ 7 _ _ _ HE0.out
     have z7:=frozen_of_row _ _ 7 _ _ HE0.out
     have y8:=cell_of_row _ _ 8 _ _ _ HE0.out
     have z8:=frozen_of_row _ _ 8 _ _ HE0.out
     clear h1 h2 hlc
     go_wp2_with fail
     refine bodyPost_ret (results_row3 rfl _ _ w.heap.size #[.int .i64 10,.int .i64 0,.int .i64 0,.int .i64 0,.int .i64 0,.int .i64 0,.bool false,.slice none 0 0,.slice none 0 0] rfl (run_loadVar_row _ _ 44 44 _ (0,0) _ (put9_heap (.int .i64 10) (.int .i64 0) (.int .i64 0) (.int .i64 0) (.int .i64 0) (.int .i64 0) (.bool false) (.slice none 0 0) (.slice none 0 0) HE0.out) Tryd.underlying44 rfl (by kernel_rfl))) rfl ?_
     exact ⟨HBE.out.trans (grown_below (put9_grown _ _ _ _ _ _ _ _ _ _ _) HBE.out.size (Nat.le_refl _)),fun _=>⟨⟨10,0,0,0,0,0,false,[],[]⟩,none,0,0,none,0,0,3,by decide,rfl⟩,fun f r h=>by rw [HFN.out] at h;cases h⟩
    ·have hvM:v≤4611686018427387903:=dec_lt HBR.out h1
     rw [show r.length - V=(r.drop V).length by rw [List.length_drop]] at h3
     have HG0:Hid (w2.heap[w.heap.size]?=some (.cells #[.int .i64 0,.int .i64 0,.int .i64 0,.int .i64 0,.int .i64 0,.int .i64 0,.bool false,.slice none 0 0,.slice none 0 0] 44 (0,0))):=(h2.block _ (Array.getElem?_eq_some_iff.1 HK.out.h0).1).trans HK.out.h0
     have HGF:Hid (w2.heap[w.heap.size+1]?=some (.cells #[.int .i64 10,.int .i64 0,.int .i64 0,.int .i64 0,.int .i64 0,.int .i64 0,.bool false,.slice none 0 0,.slice none 0 0] 44 (0,0))):=(h2.block _ (Array.getElem?_eq_some_iff.1 HK.out.hf).1).trans HK.out.hf
     have HEL:Hid (w2.heap[gl]?=some (.cells #[.int .i64 0,.int .i64 0,.int .i64 0,.int .i64 0] 103 (0,0))):=(h2.block _ (Array.getElem?_eq_some_iff.1 hlc).1).trans hlc
     have HB2:Hid (Below w.heap.size w w2):=HK.out.bel.trans (h2.mono HK.out.bel.size)
     obtain ⟨A3,c3,rfl,g1,_,_,_⟩:=own_form h3
     have HRUN:Hid (numsO 9 ds (0+1)=if 0=9∧1<v then none else some ([] ++ [(v:Int)],r.drop V)):=numsO_next HK.out.run h1
     obtain ⟨r3,hr3⟩:∃ x,Hid (r.drop V=x):=⟨_,rfl⟩
     rw [hr3.out] at h3 g1 HRUN ⊢
     have HC3:=Lib.hid g1
     have HO3:Hid (w2.ownsRow w.heap.size 5 1 (.slice A3 r3.length c3) r3.length (bv r3)):=own_base h3 HK.out.bel.size
     have k0:=cell_of_row _ _ 0 _ _ _ HEL.out
     have fz:=frozen_of_row _ _ 0 _ _ HEL.out
     clear h1 h2 h3 g1 hlc
     have HN:Hid (RdLp w (w2.setCell ⟨gl,0,none⟩ (.int .i64 (v:Int))) 9 ds (0+1) ([] ++ [(v:Int)]) r3 A3 c3 gl 10):=by
      refine ⟨by rw [HRUN.out,if_neg (by omega)],own_put9 HO3.out (grown_set (o:=0) (.int .i64 (v:Int))) HEL.out (by decide),HC3.out,?_,?_,?_,?_⟩
      ·rw [heap_setCell_other _ _ _ _ (by show w.heap.size≠gl;have:=hs1.out;omega)];exact HG0.out
      ·rw [heap_setCell_other _ _ _ _ (by show w.heap.size+1≠gl;have:=hs1.out;omega)];exact HGF.out
      ·exact heap_setCell_same _ _ _ _ _ _ HEL.out
      ·exact HB2.out.trans (grown_below (grown_set _) HB2.out.size (by have:=hs1.out;omega))
     go_wp2_with fail
     go_roundw
     case rel=>exact ⟨0+1,_,r3,A3,c3,by omega,rfl,by go_num,HN⟩
     case measure=>simp [intOf]
   ·skip
    obtain ⟨n0,rfl⟩:=len1 nl
    clear nl
    rw [show ((1:Nat):Int)=1 from rfl]
    have hlc:wr.heap[gl]?=some (.cells #[.int .i64 n0,.int .i64 0,.int .i64 0,.int .i64 0] 103 (0,0)):=HK.out.hl
    have HGR:Hid (wr.grownBy (wr.setCell ⟨w.heap.size+1,1,none⟩ (.int .i64 n0)) (some (w.heap.size+1))):=(grown_set (o:=1) (.int .i64 n0))
    have k0:=cell_of_row _ _ 0 _ _ _ hlc
    have k1:=cell_of_row _ _ 1 _ _ _ hlc
    have k2:=cell_of_row _ _ 2 _ _ _ hlc
    have k3:=cell_of_row _ _ 3 _ _ _ hlc
    have v1:=cell_of_row _ _ 1 _ _ _ HK.out.hf
    have u1:=frozen_of_row _ _ 1 _ _ HK.out.hf
    have hgg:gl≠w.heap.size+1:=by have:=hs1.out;omega
    have hgg2:w.heap.size+1≠gl:=by have:=hs1.out;omega
    have x0:=cell_of_row _ _ 0 _ _ _ HK.out.hf
    have x1:=cell_of_row _ _ 1 _ _ _ HK.out.hf
    have x2:=cell_of_row _ _ 2 _ _ _ HK.out.hf
    have x3:=cell_of_row _ _ 3 _ _ _ HK.out.hf
    have x4:=cell_of_row _ _ 4 _ _ _ HK.out.hf
    have x5:=cell_of_row _ _ 5 _ _ _ HK.out.hf
    have x6:=cell_of_row _ _ 6 _ _ _ HK.out.hf
    have x7:=cell_of_row _ _ 7 _ _ _ HK.out.hf
    have x8:=cell_of_row _ _ 8 _ _ _ HK.out.hf
    clear HT
    have HG0:Hid ((wr.setCell ⟨w.heap.size+1,1,none⟩ (.int .i64 n0)).heap[w.heap.size]?=some (.cells #[.int .i64 0,.int .i64 0,.int .i64 0,.int .i64 0,.int .i64 0,.int .i64 0,.bool false,.slice none 0 0,.slice none 0 0] 44 (0,0))):=by show (wr.setCell ⟨w.heap.size+1,1,none⟩ (.int .i64 n0)).heap[w.heap.size]?=_;rw [heap_setCell_other _ _ _ _ (by show w.heap.size≠w.heap.size+1;omega)];exact HK.out.h0
    have HGF:Hid ((wr.setCell ⟨w.heap.size+1,1,none⟩ (.int .i64 n0)).heap[w.heap.size+1]?=some (.cells #[.int .i64 10,.int .i64 n0,.int .i64 0,.int .i64 0,.int .i64 0,.int .i64 0,.bool false,.slice none 0 0,.slice none 0 0] 44 (0,0))):=(heap_setCell_same _ _ 1 _ _ (.int .i64 n0) HK.out.hf)
    have HBW:Hid (Below w.heap.size w (wr.setCell ⟨w.heap.size+1,1,none⟩ (.int .i64 n0))):=HK.out.bel.trans (grown_below HGR.out HK.out.bel.size (by omega))
    have HRD:Hid (RdT (wr.setCell ⟨w.heap.size+1,1,none⟩ (.int .i64 n0)) (wr.setCell ⟨w.heap.size+1,1,none⟩ (.int .i64 n0)).heap.size A1 r.length r):=RdT.of_own (own_put9 HK.out.own HGR.out HK.out.hf (by decide))
    have HRF:Hid (Calls Tryd.prog 51 #[.agg #[.int .i64 10,.int .i64 n0,.int .i64 0,.int .i64 0,.int .i64 0,.int .i64 0,.bool false,.slice none 0 0,.slice none 0 0]] (wr.setCell ⟨w.heap.size+1,1,none⟩ (.int .i64 n0)) fun e w'=>e=.returned (.bool (rightB (⟨10,n0,0,0,0,0,false,[],[]⟩:Fr)))∧Below (wr.setCell ⟨w.heap.size+1,1,none⟩ (.int .i64 n0)).heap.size (wr.setCell ⟨w.heap.size+1,1,none⟩ (.int .i64 n0)) w'):=rright_any (⟨10,n0,0,0,0,0,false,[],[]⟩:Fr) none 0 0 none 0 0 _ ⟨rfl,Nat.le_refl _,Rd.nil _ _ _,rfl,Nat.le_refl _,Rd.nil _ _ _⟩ (fun c hc=>by cases hc)
    obtain ⟨rb,hrb⟩:∃ x,Hid (rightB (⟨10,n0,0,0,0,0,false,[],[]⟩:Fr)=x):=⟨_,rfl⟩
    rw [hrb.out] at HRF
    obtain ⟨LR,hLR⟩:∃ L,Hid (r.length=L):=⟨_,rfl⟩
    rw [hLR.out]
    go_wp2_with fail
    refine HRF.out.mono ?_
    rintro e w5 ⟨rfl,hb5⟩
    have HH0:Hid (w5.heap[w.heap.size]?=some (.cells #[.int .i64 0,.int .i64 0,.int .i64 0,.int .i64 0,.int .i64 0,.int .i64 0,.bool false,.slice none 0 0,.slice none 0 0] 44 (0,0))):=(hb5.block _ (Array.getElem?_eq_some_iff.1 HG0.out).1).trans HG0.out
    have HHF:Hid (w5.heap[w.heap.size+1]?=some (.cells #[.int .i64 10,.int .i64 n0,.int .i64 0,.int .i64 0,.int .i64 0,.int .i64 0,.bool false,.slice none 0 0,.slice none 0 0] 44 (0,0))):=(hb5.block _ (Array.getElem?_eq_some_iff.1 HGF.out).1).trans HGF.out
    have HB5:Hid (Below w.heap.size w w5):=HBW.out.trans (hb5.mono HBW.out.size)
    have HR5:Hid (RdT w5 w5.heap.size A1 r.length r):=(HRD.out.below hb5 (Nat.le_refl _)).more hb5.size
    clear hb5
    cases rb
    ·skip
     have HE0:Hid (w5.heap[w.heap.size]?=some (.cells #[.int .i64 0,.int .i64 0,.int .i64 0,.int .i64 0,.int .i64 0,.int .i64 0,.bool false,.slice none 0 0,.slice none 0 0] 44 (0,0))):=HH0.out
     have HEF:Hid (w5.heap[w.heap.size+1]?=some (.cells #[.int .i64 10,.int .i64 n0,.int .i64 0,.int .i64 0,.int .i64 0,.int .i64 0,.bool false,.slice none 0 0,.slice none 0 0] 44 (0,0))):=HHF.out
     have HBE:Hid (Below w.heap.size w w5):=HB5.out
     have HFN:Hid (frameO bs=none):=by show frameO bs=none;rw [HFO.out,HK.out.run];exact okO_no hrb.out
     have x0:=cell_of_row _ _ 0 _ _ _ HEF.out
     have x1:=cell_of_row _ _ 1 _ _ _ HEF.out
     have x2:=cell_of_row _ _ 2 _ _ _ HEF.out
     have x3:=cell_of_row _ _ 3 _ _ _ HEF.out
     have x4:=cell_of_row _ _ 4 _ _ _ HEF.out
     have x5:=cell_of_row _ _ 5 _ _ _ HEF.out
     have x6:=cell_of_row _ _ 6 _ _ _ HEF.out
     have x7:=cell_of_row _ _ 7 _ _ _ HEF.out
     have x8:=cell_of_row _ _ 8 _ _ _ HEF.out
     have y0:=cell_of_row _ _ 0 _ _ _ HE0.out
     have z0:=frozen_of_row _ _ 0 _ _ HE0.out
     have y1:=cell_of_row _ _ 1 _ _ _ HE0.out
     have z1:=frozen_of_row _ _ 1 _ _ HE0.out
     have y2:=cell_of_row _ _ 2 _ _ _ HE0.out
     have z2:=frozen_of_row _ _ 2 _ _ HE0.out
     have y3:=cell_of_row _ _ 3 _ _ _ HE0.out
     have z3:=frozen_of_row _ _ 3 _ _ HE0.out
     have y4:=cell_of_row _ _ 4 _ _ _ HE0.out
     have z4:=frozen_of_row _ _ 4 _ _ HE0.out
     have y5:=cell_of_row _ _ 5 _ _ _ HE0.out
     have z5:=frozen_of_row _ _ 5 _ _ HE0.out
     have y6:=cell_of_row _ _ 6 _ _ _ HE0.out
     have z6:=frozen_of_row _ _ 6 _ _ HE0.out
     have y7:=cell_of_row _ _ 7 _ _ _ HE0.out
     have z7:=frozen_of_row _ _ 7 _ _ HE0.out
     have y8:=cell_of_row _ _ 8 _ _ _ HE0.out
     have z8:=frozen_of_row _ _ 8 _ _ HE0.out
     skip
     go_wp2_with fail
     refine bodyPost_ret (results_row3 rfl _ _ w.heap.size #[.int .i64 10,.int .i64 n0,.int .i64 0,.int .i64 0,.int .i64 0,.int .i64 0,.bool false,.slice none 0 0,.slice none 0 0] rfl (run_loadVar_row _ _ 44 44 _ (0,0) _ (put9_heap (.int .i64 10) (.int .i64 n0) (.int .i64 0) (.int .i64 0) (.int .i64 0) (.int .i64 0) (.bool false) (.slice none 0 0) (.slice none 0 0) HE0.out) Tryd.underlying44 rfl (by kernel_rfl))) rfl ?_
     exact ⟨HBE.out.trans (grown_below (put9_grown _ _ _ _ _ _ _ _ _ _ _) HBE.out.size (Nat.le_refl _)),fun _=>⟨(⟨10,n0,0,0,0,0,false,[],[]⟩:Fr),none,0,0,none,0,0,2,by decide,rfl⟩,fun f r h=>by rw [HFN.out] at h;cases h⟩
    ·have HE0:=HH0
     have HEF:=HHF
     have x0:=cell_of_row _ _ 0 _ _ _ HEF.out
     have x1:=cell_of_row _ _ 1 _ _ _ HEF.out
     have x2:=cell_of_row _ _ 2 _ _ _ HEF.out
     have x3:=cell_of_row _ _ 3 _ _ _ HEF.out
     have x4:=cell_of_row _ _ 4 _ _ _ HEF.out
     have x5:=cell_of_row _ _ 5 _ _ _ HEF.out
     have x6:=cell_of_row _ _ 6 _ _ _ HEF.out
     have x7:=cell_of_row _ _ 7 _ _ _ HEF.out
     have x8:=cell_of_row _ _ 8 _ _ _ HEF.out
     have y0:=cell_of_row _ _ 0 _ _ _ HE0.out
     have z0:=frozen_of_row _ _ 0 _ _ HE0.out
     have y1:=cell_of_row _ _ 1 _ _ _ HE0.out
     have z1:=frozen_of_row _ _ 1 _ _ HE0.out
     have y2:=cell_of_row _ _ 2 _ _ _ HE0.out
     have z2:=frozen_of_row _ _ 2 _ _ HE0.out
     have y3:=cell_of_row _ _ 3 _ _ _ HE0.out
     have z3:=frozen_of_row _ _ 3 _ _ HE0.out
     have y4:=cell_of_row _ _ 4 _ _ _ HE0.out
     have z4:=frozen_of_row _ _ 4 _ _ HE0.out
     have y5:=cell_of_row _ _ 5 _ _ _ HE0.out
     have z5:=frozen_of_row _ _ 5 _ _ HE0.out
     have y6:=cell_of_row _ _ 6 _ _ _ HE0.out
     have z6:=frozen_of_row _ _ 6 _ _ HE0.out
     have y7:=cell_of_row _ _ 7 _ _ _ HE0.out
     have z7:=frozen_of_row _ _ 7 _ _ HE0.out
     have y8:=cell_of_row _ _ 8 _ _ _ HE0.out
     have z8:=frozen_of_row _ _ 8 _ _ HE0.out
     have HFS:Hid (frameO bs=some ((⟨10,n0,0,0,0,0,false,[],[]⟩:Fr),r)):=by show frameO bs=_;rw [HFO.out,HK.out.run];exact okO_yes hrb.out
     go_wp2_with fail
     refine bodyPost_ret (results_row3 rfl _ _ w.heap.size #[.int .i64 10,.int .i64 n0,.int .i64 0,.int .i64 0,.int .i64 0,.int .i64 0,.bool false,.slice none 0 0,.slice none 0 0] rfl (run_loadVar_row _ _ 44 44 _ (0,0) _ (put9_heap (.int .i64 10) (.int .i64 n0) (.int .i64 0) (.int .i64 0) (.int .i64 0) (.int .i64 0) (.bool false) (.slice none 0 0) (.slice none 0 0) HE0.out) Tryd.underlying44 rfl (by kernel_rfl))) rfl ?_
     have hgr:=put9_grown w5 w.heap.size (.int .i64 10) (.int .i64 n0) (.int .i64 0) (.int .i64 0) (.int .i64 0) (.int .i64 0) (.bool false) (.slice none 0 0) (.slice none 0 0)
     refine ⟨HB5.out.trans (grown_below hgr HB5.out.size (Nat.le_refl _)),fun h=>(by rw [HFS.out] at h;cases h),fun f r' h=>?_⟩
     rw [HFS.out] at h
     simp only [Option.some.injEq,Prod.mk.injEq] at h
     obtain ⟨rfl,rfl⟩:=h
     have hkeep:∀ k,some w.heap.size=some k→∃ cur fr e,w5.heap[k]?=some (.cells cur e fr)∧e≠5:=fun k hk=>by cases hk;exact ⟨_,_,_,HE0.out,by decide⟩
     exact ⟨none,0,0,none,0,0,A1,c1,by rw [hLR.out];rfl,rfl,rfl,by omega,by omega,own_nil _ _ _ _,own_nil _ _ _ _,HK.out.cap,(HR5.out.keep hgr hkeep).more hgr.size⟩
theorem rread_11 (bs:List Nat) (B:Nat) (A:Option Addr) (cap:Nat) (w:World) (hx:Rd w B A bs.length (bv bs)) (hB:B≤w.heap.size) (hb:∀ c ∈ bs,c<256) (hn:bs.length≤cap) (hm:bs.length≤1000000) (W:Nat) (hd:dec bs=some (11,W)) :
  Calls Tryd.prog 59 #[.slice A bs.length cap] w (ReadRP bs w):=by
 have HT0:Hid (∀ W',Below w.heap.size w W'→Calls Tryd.prog 79 #[.slice A bs.length cap] W' fun e w'=>TakeP bs W' e w'):=fun W' h=>rtake_any bs B A cap W' (hx.below h hB) (Nat.le_trans hB h.size) hb hn (by omega)
 have HLD:Hid ((bs.drop W).length=bs.length - W):=by show _=_;rw [List.length_drop]
 have HBD:Hid (∀ c ∈ bs.drop W,c<256):=fun c hc=>hb c (List.mem_of_mem_drop hc)
 have HLM:Hid ((bs.drop W).length≤1000000):=by show _≤_;rw [List.length_drop];omega
 obtain ⟨ds,hds⟩:∃ ds,bs.drop W=ds:=⟨_,rfl⟩
 have HFO:=Lib.hid (frameO_11 hd hds)
 rw [hds] at HLD HBD HLM
 have hds:=Lib.hid hds
 have hd:=Lib.hid hd
 have hix:∀ w,(Instr.index 102 (.agg #[.int .i64 0,.int .i64 0,.int .i64 0,.int .i64 3,.int .i64 4,.int .i64 2,.int .i64 1,.int .i64 2,.int .i64 2,.int .i64 0,.int .i64 1,.int .i64 1,.int .i64 1]) (.int .i64 11)).run Tryd.prog w=.ok (.int .i64 1) w:=fun _=>by kernel_rfl
 clear hx hB hb hn
 go_enter Tryd.func59,Tryd.ntmps59
 go_wp2_with fail
 refine (HT0.out _ (((Below.refl _ _).alloc (Nat.le_refl _) _).alloc (by simp) _)).mono ?_
 rintro e w1 (⟨h1,_⟩ | ⟨v,V,v',h1,rfl,h3,h2⟩)
 ·rw [hd.out] at h1;cases h1
 ·rw [hd.out] at h1
  cases h1
  rw [← HLD.out,hds.out] at h3
  obtain ⟨A',c',rfl,g1,_,_,_⟩:=own_form h3
  rw [show ((11:Nat):Int)=11 from rfl]
  have hz:((w.alloc (.cells #[.int .i64 0,.int .i64 0,.int .i64 0,.int .i64 0,.int .i64 0,.int .i64 0,.bool false,.slice none 0 0,.slice none 0 0] 44)).alloc (.cells #[.int .i64 0,.int .i64 0,.int .i64 0,.int .i64 0,.int .i64 0,.int .i64 0,.bool false,.slice none 0 0,.slice none 0 0] 44)).heap.size=w.heap.size+1+1:=by simp
  rw [hz] at h2
  have hb0:w1.heap[w.heap.size]?=some (.cells #[.int .i64 0,.int .i64 0,.int .i64 0,.int .i64 0,.int .i64 0,.int .i64 0,.bool false,.slice none 0 0,.slice none 0 0] 44 (0,0)):=by
   rw [h2.block w.heap.size (by omega),heap_alloc_old _ _ (by simp)];exact heap_alloc_new _ _
  have hbf:w1.heap[w.heap.size+1]?=some (.cells #[.int .i64 0,.int .i64 0,.int .i64 0,.int .i64 0,.int .i64 0,.int .i64 0,.bool false,.slice none 0 0,.slice none 0 0] 44 (0,0)):=by
   rw [h2.block (w.heap.size+1) (by omega)]
   have:=heap_alloc_new (w.alloc (.cells #[.int .i64 0,.int .i64 0,.int .i64 0,.int .i64 0,.int .i64 0,.int .i64 0,.bool false,.slice none 0 0,.slice none 0 0] 44)) (.cells #[.int .i64 0,.int .i64 0,.int .i64 0,.int .i64 0,.int .i64 0,.int .i64 0,.bool false,.slice none 0 0,.slice none 0 0] 44)
   simpa using this
  have hs1:Hid (w.heap.size+1<w1.heap.size):=by have:=h2.size;rw [hz] at this;show _<_;omega
  have HB1:Hid (Below w.heap.size w w1):=(((Below.refl _ _).alloc (Nat.le_refl _) _).alloc (by simp) _).trans (h2.mono (by omega))
  have c0:=cell_of_row _ _ 0 _ _ _ hbf
  have f0:=frozen_of_row _ _ 0 _ _ hbf
  have HS0:Hid (RdLp w ((w1.setCell ⟨w.heap.size+1,0,none⟩ (.int .i64 11)).alloc (.cells #[.int .i64 0,.int .i64 0,.int .i64 0,.int .i64 0] 103)) 9 ds 0 [] ds A' c' w1.heap.size 11):=by
   have hsz:(w1.setCell ⟨w.heap.size+1,0,none⟩ (.int .i64 11)).heap.size=w1.heap.size:=by simp [World.setCell]
   have hbs:Below w1.heap.size (w1.setCell ⟨w.heap.size+1,0,none⟩ (.int .i64 11)) ((w1.setCell ⟨w.heap.size+1,0,none⟩ (.int .i64 11)).alloc (.cells #[.int .i64 0,.int .i64 0,.int .i64 0,.int .i64 0] 103)):=(Below.refl _ _).alloc (by rw [hsz];exact Nat.le_refl _) _
   refine ⟨rfl,?_,g1,?_,?_,?_,?_⟩
   ·exact own_base ((own_put9 h3 (grown_set (o:=0) (.int .i64 11)) hbf (by decide)).alloc _) (by rw [hz];omega)
   ·rw [hbs.block _ (by have:=hs1.out;omega),heap_setCell_other _ _ _ _ (by show w.heap.size≠w.heap.size+1;omega)];exact hb0
   ·rw [hbs.block _ hs1.out];exact heap_setCell_same _ _ _ _ _ _ hbf
   ·have:=heap_alloc_new (w1.setCell ⟨w.heap.size+1,0,none⟩ (.int .i64 11)) (.cells #[.int .i64 0,.int .i64 0,.int .i64 0,.int .i64 0] 103)
    rw [hsz] at this
    exact this
   ·exact (HB1.out.trans (grown_below (grown_set _) HB1.out.size (by omega))).trans (hbs.mono (by have:=hs1.out;omega))
  clear h2 h3 g1 hz hb0 hbf HT0
  go_wp2_with fail
  obtain ⟨gl,hgl⟩:∃ x,Hid (w1.heap.size=x):=⟨_,rfl⟩
  rw [hgl.out] at HS0 hs1
  rw [hgl.out]
  go_loopw [7,11] (fun rest i wr=>∃ (j:Nat) (ns:List Int) (r:List Nat) (A1:Option Addr) (c1:Nat),j≤1∧rest=.slice A1 r.length c1∧i=.int .i64 (j:Int)∧Hid (RdLp w wr 9 ds j ns r A1 c1 gl 11)) (fun _ i _=>1 - (intOf i).toNat)
  case atStart=>exact ⟨0,[],ds,A',c',by omega,rfl,rfl,HS0⟩
  case round =>
   obtain ⟨j,ns,r,A1,c1,hj,rfl,rfl,HK⟩:=hrel
   obtain ⟨nl,nsub,nlen⟩:=numsO_in j _ HK.out.run
   simp only at nl nsub nlen
   have HBR:Hid (∀ c ∈ r,c<256):=fun c hc=>HBD.out c (nsub c hc)
   have HLR:Hid (r.length≤1000000):=Nat.le_trans nlen HLM.out
   have HT:=Lib.hid (rtake_any r wr.heap.size A1 c1 wr (RdT.of_own HK.out.own).1 (Nat.le_refl _) HBR.out HK.out.cap (by have:=HLR.out;omega))
   clear nsub nlen HS0
   have hjc:j=0∨j=1:=by omega
   clear hj
   rcases hjc with rfl | rfl
   ·skip
    obtain rfl:ns=[]:=List.eq_nil_of_length_eq_zero nl
    clear nl
    rw [show ((0:Nat):Int)=0 from rfl]
    have hlc:wr.heap[gl]?=some (.cells #[.int .i64 0,.int .i64 0,.int .i64 0,.int .i64 0] 103 (0,0)):=HK.out.hl
    obtain ⟨L,hL⟩:∃ L,Hid (r.length=L):=⟨_,rfl⟩
    rw [hL.out] at HT ⊢
    go_wp2_with fail
    refine HT.out.mono ?_
    rintro e w2 (⟨h1,rfl,h2⟩ | ⟨v,V,v',h1,rfl,h3,h2⟩)
    ·skip
     have HE0:Hid (w2.heap[w.heap.size]?=some (.cells #[.int .i64 0,.int .i64 0,.int .i64 0,.int .i64 0,.int .i64 0,.int .i64 0,.bool false,.slice none 0 0,.slice none 0 0] 44 (0,0))):=(h2.block _ (Array.getElem?_eq_some_iff.1 HK.out.h0).1).trans HK.out.h0
     have HEF:Hid (w2.heap[w.heap.size+1]?=some (.cells #[.int .i64 11,.int .i64 0,.int .i64 0,.int .i64 0,.int .i64 0,.int .i64 0,.bool false,.slice none 0 0,.slice none 0 0] 44 (0,0))):=(h2.block _ (Array.getElem?_eq_some_iff.1 HK.out.hf).1).trans HK.out.hf
     have HBE:Hid (Below w.heap.size w w2):=HK.out.bel.trans (h2.mono HK.out.bel.size)
     have HFN:Hid (frameO bs=none):=by show frameO bs=none;rw [HFO.out,numsO_no (show 0<1 by omega) (numsO_stop HK.out.run h1)]
     have x0:=cell_of_row _ _ 0 _ _ _ HEF.out
     have x1:=cell_of_row _ _ 1 _ _ _ HEF.out
     have x2:=cell_of_row _ _ 2 _ _ _ HEF.out
     have x3:=cell_of_row _ _ 3 _ _ _ HEF.out
     have x4:=cell_of_row _ _ 4 _ _ _ HEF.out
     have x5:=cell_of_row _ _ 5 _ _ _ HEF.out
     have x6:=cell_of_row _ _ 6 _ _ _ HEF.out
     have x7:=cell_of_row _ _ 7 _ _ _ HEF.out
     have x8:=cell_of_row _ _ 8 _ _ _ HEF.out
     have y0:=cell_of_row _ _ 0 _ _ _ HE0.out
     have z0:=frozen_of_row _ _ 0 _ _ HE0.out
     have y1:=cell_of_row _ _ 1 _ _ _ HE0.out
     have z1:=frozen_of_row _ _ 1 _ _ HE0.out
     have y2:=cell_of_row _ _ 2 _ _ _ HE0.out
     have z2:=frozen_of_row _ _ 2 _ _ HE0.out
     have y3:=cell_of_row _ _ 3 _ _ _ HE0.out
     have z3:=frozen_of_row _ _ 3 _ _ HE0.out
     have y4:=cell_of_row _ _ 4 _ _ _ HE0.out
     have z4:=frozen_of_row _ _ 4 _ _ HE0.out
     have y5:=cell_of_row _ _ 5 _ _ _ HE0.out
     have z5:=frozen_of_row _ _ 5 _ _ HE0.out
     have y6:=cell_of_row _ _ 6 _ _ _ HE0.out
     have z6:=frozen_of_row _ _ 6 _ _ HE0.out
     have y7:=cell_of_row _ _ 7 _ _ _ HE0.out
     have z7:=frozen_of_row _ _ 7 _ _ HE0.out
     have y8:=cell_of_row _ _ 8 _ _ _ HE0.out
     have z8:=frozen_of_row _ _ 8 _ _ HE0.out
     clear h1 h2 hlc
     go_wp2_with fail
     refine bodyPost_ret (results_row3 rfl _ _ w.heap.size #[.int .i64 11,.int .i64 0,.int .i64 0,.int .i64 0,.int .i64 0,.int .i64 0,.bool false,.slice none 0 0,.slice none 0 0] rfl (run_loadVar_row _ _ 44 44 _ (0,0) _ (put9_heap (.int .i64 11) (.int .i64 0) (.int .i64 0) (.int .i64 0) (.int .i64 0) (.int .i64 0) (.bool false) (.slice none 0 0) (.slice none 0 0) HE0.out) Tryd.underlying44 rfl (by kernel_rfl))) rfl ?_
     exact ⟨HBE.out.trans (grown_below (put9_grown _ _ _ _ _ _ _ _ _ _ _) HBE.out.size (Nat.le_refl _)),fun _=>⟨⟨11,0,0,0,0,0,false,[],[]⟩,none,0,0,none,0,0,3,by decide,rfl⟩,fun f r h=>by rw [HFN.out] at h;cases h⟩
    ·have hvM:v≤4611686018427387903:=dec_lt HBR.out h1
     rw [show r.length - V=(r.drop V).length by rw [List.length_drop]] at h3
     have HG0:Hid (w2.heap[w.heap.size]?=some (.cells #[.int .i64 0,.int .i64 0,.int .i64 0,.int .i64 0,.int .i64 0,.int .i64 0,.bool false,.slice none 0 0,.slice none 0 0] 44 (0,0))):=(h2.block _ (Array.getElem?_eq_some_iff.1 HK.out.h0).1).trans HK.out.h0
     have HGF:Hid (w2.heap[w.heap.size+1]?=some (.cells #[.int .i64 11,.int .i64 0,.int .i64 0,.int .i64 0,.int .i64 0,.int .i64 0,.bool false,.slice none 0 0,.slice none 0 0] 44 (0,0))):=(h2.block _ (Array.getElem?_eq_some_iff.1 HK.out.hf).1).trans HK.out.hf
     have HEL:Hid (w2.heap[gl]?=some (.cells #[.int .i64 0,.int .i64 0,.int .i64 0,.int .i64 0] 103 (0,0))):=(h2.block _ (Array.getElem?_eq_some_iff.1 hlc).1).trans hlc
     have HB2:Hid (Below w.heap.size w w2):=HK.out.bel.trans (h2.mono HK.out.bel.size)
     obtain ⟨A3,c3,rfl,g1,_,_,_⟩:=own_form h3
     have HRUN:Hid (numsO 9 ds (0+1)=if 0=9∧1<v then none else some ([] ++ [(v:Int)],r.drop V)):=numsO_next HK.out.run h1
     obtain ⟨r3,hr3⟩:∃ x,Hid (r.drop V=x):=⟨_,rfl⟩
     rw [hr3.out] at h3 g1 HRUN ⊢
     have HC3:=Lib.hid g1
     have HO3:Hid (w2.ownsRow w.heap.size 5 1 (.slice A3 r3.length c3) r3.length (bv r3)):=own_base h3 HK.out.bel.size
     have k0:=cell_of_row _ _ 0 _ _ _ HEL.out
     have fz:=frozen_of_row _ _ 0 _ _ HEL.out
     clear h1 h2 h3 g1 hlc
     have HN:Hid (RdLp w (w2.setCell ⟨gl,0,none⟩ (.int .i64 (v:Int))) 9 ds (0+1) ([] ++ [(v:Int)]) r3 A3 c3 gl 11):=by
      refine ⟨by rw [HRUN.out,if_neg (by omega)],own_put9 HO3.out (grown_set (o:=0) (.int .i64 (v:Int))) HEL.out (by decide),HC3.out,?_,?_,?_,?_⟩
      ·rw [heap_setCell_other _ _ _ _ (by show w.heap.size≠gl;have:=hs1.out;omega)];exact HG0.out
      ·rw [heap_setCell_other _ _ _ _ (by show w.heap.size+1≠gl;have:=hs1.out;omega)];exact HGF.out
      ·exact heap_setCell_same _ _ _ _ _ _ HEL.out
      ·exact HB2.out.trans (grown_below (grown_set _) HB2.out.size (by have:=hs1.out;omega))
     go_wp2_with fail
     go_roundw
     case rel=>exact ⟨0+1,_,r3,A3,c3,by omega,rfl,by go_num,HN⟩
     case measure=>simp [intOf]
   ·skip
    obtain ⟨n0,rfl⟩:=len1 nl
    clear nl
    rw [show ((1:Nat):Int)=1 from rfl]
    have hlc:wr.heap[gl]?=some (.cells #[.int .i64 n0,.int .i64 0,.int .i64 0,.int .i64 0] 103 (0,0)):=HK.out.hl
    have HGR:Hid (wr.grownBy (wr.setCell ⟨w.heap.size+1,1,none⟩ (.int .i64 n0)) (some (w.heap.size+1))):=(grown_set (o:=1) (.int .i64 n0))
    have k0:=cell_of_row _ _ 0 _ _ _ hlc
    have k1:=cell_of_row _ _ 1 _ _ _ hlc
    have k2:=cell_of_row _ _ 2 _ _ _ hlc
    have k3:=cell_of_row _ _ 3 _ _ _ hlc
    have v1:=cell_of_row _ _ 1 _ _ _ HK.out.hf
    have u1:=frozen_of_row _ _ 1 _ _ HK.out.hf
    have hgg:gl≠w.heap.size+1:=by have:=hs1.out;omega
    have hgg2:w.heap.size+1≠gl:=by have:=hs1.out;omega
    have x0:=cell_of_row _ _ 0 _ _ _ HK.out.hf
    have x1:=cell_of_row _ _ 1 _ _ _ HK.out.hf
    have x2:=cell_of_row _ _ 2 _ _ _ HK.out.hf
    have x3:=cell_of_row _ _ 3 _ _ _ HK.out.hf
    have x4:=cell_of_row _ _ 4 _ _ _ HK.out.hf
    have x5:=cell_of_row _ _ 5 _ _ _ HK.out.hf
    have x6:=cell_of_row _ _ 6 _ _ _ HK.out.hf
    have x7:=cell_of_row _ _ 7 _ _ _ HK.out.hf
    have x8:=cell_of_row _ _ 8 _ _ _ HK.out.hf
    clear HT
    have HG0:Hid ((wr.setCell ⟨w.heap.size+1,1,none⟩ (.int .i64 n0)).heap[w.heap.size]?=some (.cells #[.int .i64 0,.int .i64 0,.int .i64 0,.int .i64 0,.int .i64 0,.int .i64 0,.bool false,.slice none 0 0,.slice none 0 0] 44 (0,0))):=by show (wr.setCell ⟨w.heap.size+1,1,none⟩ (.int .i64 n0)).heap[w.heap.size]?=_;rw [heap_setCell_other _ _ _ _ (by show w.heap.size≠w.heap.size+1;omega)];exact HK.out.h0
    have HGF:Hid ((wr.setCell ⟨w.heap.size+1,1,none⟩ (.int .i64 n0)).heap[w.heap.size+1]?=some (.cells #[.int .i64 11,.int .i64 n0,.int .i64 0,.int .i64 0,.int .i64 0,.int .i64 0,.bool false,.slice none 0 0,.slice none 0 0] 44 (0,0))):=(heap_setCell_same _ _ 1 _ _ (.int .i64 n0) HK.out.hf)
    have HBW:Hid (Below w.heap.size w (wr.setCell ⟨w.heap.size+1,1,none⟩ (.int .i64 n0))):=HK.out.bel.trans (grown_below HGR.out HK.out.bel.size (by omega))
    have HRD:Hid (RdT (wr.setCell ⟨w.heap.size+1,1,none⟩ (.int .i64 n0)) (wr.setCell ⟨w.heap.size+1,1,none⟩ (.int .i64 n0)).heap.size A1 r.length r):=RdT.of_own (own_put9 HK.out.own HGR.out HK.out.hf (by decide))
    have HRF:Hid (Calls Tryd.prog 51 #[.agg #[.int .i64 11,.int .i64 n0,.int .i64 0,.int .i64 0,.int .i64 0,.int .i64 0,.bool false,.slice none 0 0,.slice none 0 0]] (wr.setCell ⟨w.heap.size+1,1,none⟩ (.int .i64 n0)) fun e w'=>e=.returned (.bool (rightB (⟨11,n0,0,0,0,0,false,[],[]⟩:Fr)))∧Below (wr.setCell ⟨w.heap.size+1,1,none⟩ (.int .i64 n0)).heap.size (wr.setCell ⟨w.heap.size+1,1,none⟩ (.int .i64 n0)) w'):=rright_any (⟨11,n0,0,0,0,0,false,[],[]⟩:Fr) none 0 0 none 0 0 _ ⟨rfl,Nat.le_refl _,Rd.nil _ _ _,rfl,Nat.le_refl _,Rd.nil _ _ _⟩ (fun c hc=>by cases hc)
    obtain ⟨rb,hrb⟩:∃ x,Hid (rightB (⟨11,n0,0,0,0,0,false,[],[]⟩:Fr)=x):=⟨_,rfl⟩
    rw [hrb.out] at HRF
    obtain ⟨LR,hLR⟩:∃ L,Hid (r.length=L):=⟨_,rfl⟩
    rw [hLR.out]
    go_wp2_with fail
    refine HRF.out.mono ?_
    rintro e w5 ⟨rfl,hb5⟩
    have HH0:Hid (w5.heap[w.heap.size]?=some (.cells #[.int .i64 0,.int .i64 0,.int .i64 0,.int .i64 0,.int .i64 0,.int .i64 0,.bool false,.slice none 0 0,.slice none 0 0] 44 (0,0))):=(hb5.block _ (Array.getElem?_eq_some_iff.1 HG0.out).1).trans HG0.out
    have HHF:Hid (w5.heap[w.heap.size+1]?=some (.cells #[.int .i64 11,.int .i64 n0,.int .i64 0,.int .i64 0,.int .i64 0,.int .i64 0,.bool false,.slice none 0 0,.slice none 0 0] 44 (0,0))):=(hb5.block _ (Array.getElem?_eq_some_iff.1 HGF.out).1).trans HGF.out
    have HB5:Hid (Below w.heap.size w w5):=HBW.out.trans (hb5.mono HBW.out.size)
    have HR5:Hid (RdT w5 w5.heap.size A1 r.length r):=(HRD.out.below hb5 (Nat.le_refl _)).more hb5.size
    clear hb5
    cases rb
    ·skip
     have HE0:Hid (w5.heap[w.heap.size]?=some (.cells #[.int .i64 0,.int .i64 0,.int .i64 0,.int .i64 0,.int .i64 0,.int .i64 0,.bool false,.slice none 0 0,.slice none 0 0] 44 (0,0))):=HH0.out
     have HEF:Hid (w5.heap[w.heap.size+1]?=some (.cells #[.int .i64 11,.int .i64 n0,.int .i64 0,.int .i64 0,.int .i64 0,.int .i64 0,.bool false,.slice none 0 0,.slice none 0 0] 44 (0,0))):=HHF.out
     have HBE:Hid (Below w.heap.size w w5):=HB5.out
     have HFN:Hid (frameO bs=none):=by show frameO bs=none;rw [HFO.out,HK.out.run];exact okO_no hrb.out
     have x0:=cell_of_row _ _ 0 _ _ _ HEF.out
     have x1:=cell_of_row _ _ 1 _ _ _ HEF.out
     have x2:=cell_of_row _ _ 2 _ _ _ HEF.out
     have x3:=cell_of_row _ _ 3 _ _ _ HEF.out
     have x4:=cell_of_row _ _ 4 _ _ _ HEF.out
     have x5:=cell_of_row _ _ 5 _ _ _ HEF.out
     have x6:=cell_of_row _ _ 6 _ _ _ HEF.out
     have x7:=cell_of_row _ _ 7 _ _ _ HEF.out
     have x8:=cell_of_row _ _ 8 _ _ _ HEF.out
     have y0:=cell_of_row _ _ 0 _ _ _ HE0.out
     have z0:=frozen_of_row _ _ 0 _ _ HE0.out
     have y1:=cell_of_row _ _ 1 _ _ _ HE0.out
     have z1:=frozen_of_row _ _ 1 _ _ HE0.out
     have y2:=cell_of_row _ _ 2 _ _ _ HE0.out
     have z2:=frozen_of_row _ _ 2 _ _ HE0.out
     have y3:=cell_of_row _ _ 3 _ _ _ HE0.out
     have z3:=frozen_of_row _ _ 3 _ _ HE0.out
     have y4:=cell_of_row _ _ 4 _ _ _ HE0.out
     have z4:=frozen_of_row _ _ 4 _ _ HE0.out
     have y5:=cell_of_row _ _ 5 _ _ _ HE0.out
     have z5:=frozen_of_row _ _ 5 _ _ HE0.out
     have y6:=cell_of_row _ _ 6 _ _ _ HE0.out
     have z6:=frozen_of_row _ _ 6 _ _ HE0.out
     have y7:=cell_of_row _ _ 7 _ _ _ HE0.out
     have z7:=frozen_of_row _ _ 7 _ _ HE0.out
     have y8:=cell_of_row _ _ 8 _ _ _ HE0.out
     have z8:=frozen_of_row _ _ 8 _ _ HE0.out
     skip
     go_wp2_with fail
     refine bodyPost_ret (results_row3 rfl _ _ w.heap.size #[.int .i64 11,.int .i64 n0,.int .i64 0,.int .i64 0,.int .i64 0,.int .i64 0,.bool false,.slice none 0 0,.slice none 0 0] rfl (run_loadVar_row _ _ 44 44 _ (0,0) _ (put9_heap (.int .i64 11) (.int .i64 n0) (.int .i64 0) (.int .i64 0) (.int .i64 0) (.int .i64 0) (.bool false) (.slice none 0 0) (.slice none 0 0) HE0.out) Tryd.underlying44 rfl (by kernel_rfl))) rfl ?_
     exact ⟨HBE.out.trans (grown_below (put9_grown _ _ _ _ _ _ _ _ _ _ _) HBE.out.size (Nat.le_refl _)),fun _=>⟨(⟨11,n0,0,0,0,0,false,[],[]⟩:Fr),none,0,0,none,0,0,2,by decide,rfl⟩,fun f r h=>by rw [HFN.out] at h;cases h⟩
    ·have HE0:=HH0
     have HEF:=HHF
     have x0:=cell_of_row _ _ 0 _ _ _ HEF.out
     have x1:=cell_of_row _ _ 1 _ _ _ HEF.out
     have x2:=cell_of_row _ _ 2 _ _ _ HEF.out
     have x3:=cell_of_row _ _ 3 _ _ _ HEF.out
     have x4:=cell_of_row _ _ 4 _ _ _ HEF.out
     have x5:=cell_of_row _ _ 5 _ _ _ HEF.out
     have x6:=cell_of_row _ _ 6 _ _ _ HEF.out
     have x7:=cell_of_row _ _ 7 _ _ _ HEF.out
     have x8:=cell_of_row _ _ 8 _ _ _ HEF.out
     have y0:=cell_of_row _ _ 0 _ _ _ HE0.out
     have z0:=frozen_of_row _ _ 0 _ _ HE0.out
     have y1:=cell_of_row _ _ 1 _ _ _ HE0.out
     have z1:=frozen_of_row _ _ 1 _ _ HE0.out
     have y2:=cell_of_row _ _ 2 _ _ _ HE0.out
     have z2:=frozen_of_row _ _ 2 _ _ HE0.out
     have y3:=cell_of_row _ _ 3 _ _ _ HE0.out
     have z3:=frozen_of_row _ _ 3 _ _ HE0.out
     have y4:=cell_of_row _ _ 4 _ _ _ HE0.out
     have z4:=frozen_of_row _ _ 4 _ _ HE0.out
     have y5:=cell_of_row _ _ 5 _ _ _ HE0.out
     have z5:=frozen_of_row _ _ 5 _ _ HE0.out
     have y6:=cell_of_row _ _ 6 _ _ _ HE0.out
     have z6:=frozen_of_row _ _ 6 _ _ HE0.out
     have y7:=cell_of_row _ _ 7 _ _ _ HE0.out
     have z7:=frozen_of_row _ _ 7 _ _ HE0.out
     have y8:=cell_of_row _ _ 8 _ _ _ HE0.out
     have z8:=frozen_of_row _ _ 8 _ _ HE0.out
     have HFS:Hid (frameO bs=some ((⟨11,n0,0,0,0,0,false,[],[]⟩:Fr),r)):=by show frameO bs=_;rw [HFO.out,HK.out.run];exact okO_yes hrb.out
     go_wp2_with fail
     refine bodyPost_ret (results_row3 rfl _ _ w.heap.size #[.int .i64 11,.int .i64 n0,.int .i64 0,.int .i64 0,.int .i64 0,.int .i64 0,.bool false,.slice none 0 0,.slice none 0 0] rfl (run_loadVar_row _ _ 44 44 _ (0,0) _ (put9_heap (.int .i64 11) (.int .i64 n0) (.int .i64 0) (.int .i64 0) (.int .i64 0) (.int .i64 0) (.bool false) (.slice none 0 0) (.slice none 0 0) HE0.out) Tryd.underlying44 rfl (by kernel_rfl))) rfl ?_
     have hgr:=put9_grown w5 w.heap.size (.int .i64 11) (.int .i64 n0) (.int .i64 0) (.int .i64 0) (.int .i64 0) (.int .i64 0) (.bool false) (.slice none 0 0) (.slice none 0 0)
     refine ⟨HB5.out.trans (grown_below hgr HB5.out.size (Nat.le_refl _)),fun h=>(by rw [HFS.out] at h;cases h),fun f r' h=>?_⟩
     rw [HFS.out] at h
     simp only [Option.some.injEq,Prod.mk.injEq] at h
     obtain ⟨rfl,rfl⟩:=h
     have hkeep:∀ k,some w.heap.size=some k→∃ cur fr e,w5.heap[k]?=some (.cells cur e fr)∧e≠5:=fun k hk=>by cases hk;exact ⟨_,_,_,HE0.out,by decide⟩
     exact ⟨none,0,0,none,0,0,A1,c1,by rw [hLR.out];rfl,rfl,rfl,by omega,by omega,own_nil _ _ _ _,own_nil _ _ _ _,HK.out.cap,(HR5.out.keep hgr hkeep).more hgr.size⟩
theorem rread_9 (bs:List Nat) (B:Nat) (A:Option Addr) (cap:Nat) (w:World) (hx:Rd w B A bs.length (bv bs)) (hB:B≤w.heap.size) (hb:∀ c ∈ bs,c<256) (hn:bs.length≤cap) (hm:bs.length≤1000000) (W:Nat) (hd:dec bs=some (9,W)) :
  Calls Tryd.prog 59 #[.slice A bs.length cap] w (ReadRP bs w):=by
 have HT0:Hid (∀ W',Below w.heap.size w W'→Calls Tryd.prog 79 #[.slice A bs.length cap] W' fun e w'=>TakeP bs W' e w'):=fun W' h=>rtake_any bs B A cap W' (hx.below h hB) (Nat.le_trans hB h.size) hb hn (by omega)
 have HLD:Hid ((bs.drop W).length=bs.length - W):=by show _=_;rw [List.length_drop]
 have HBD:Hid (∀ c ∈ bs.drop W,c<256):=fun c hc=>hb c (List.mem_of_mem_drop hc)
 have HLM:Hid ((bs.drop W).length≤1000000):=by show _≤_;rw [List.length_drop];omega
 obtain ⟨ds,hds⟩:∃ ds,bs.drop W=ds:=⟨_,rfl⟩
 have HFO:=Lib.hid (frameO_9 hd hds)
 rw [hds] at HLD HBD HLM
 have hds:=Lib.hid hds
 have hd:=Lib.hid hd
 have hix:∀ w,(Instr.index 102 (.agg #[.int .i64 0,.int .i64 0,.int .i64 0,.int .i64 3,.int .i64 4,.int .i64 2,.int .i64 1,.int .i64 2,.int .i64 2,.int .i64 0,.int .i64 1,.int .i64 1,.int .i64 1]) (.int .i64 9)).run Tryd.prog w=.ok (.int .i64 0) w:=fun _=>by kernel_rfl
 clear hx hB hb hn
 go_enter Tryd.func59,Tryd.ntmps59
 go_wp2_with fail
 refine (HT0.out _ (((Below.refl _ _).alloc (Nat.le_refl _) _).alloc (by simp) _)).mono ?_
 rintro e w1 (⟨h1,_⟩ | ⟨v,V,v',h1,rfl,h3,h2⟩)
 ·rw [hd.out] at h1;cases h1
 ·rw [hd.out] at h1
  cases h1
  rw [← HLD.out,hds.out] at h3
  obtain ⟨A',c',rfl,g1,_,_,_⟩:=own_form h3
  rw [show ((9:Nat):Int)=9 from rfl]
  have hz:((w.alloc (.cells #[.int .i64 0,.int .i64 0,.int .i64 0,.int .i64 0,.int .i64 0,.int .i64 0,.bool false,.slice none 0 0,.slice none 0 0] 44)).alloc (.cells #[.int .i64 0,.int .i64 0,.int .i64 0,.int .i64 0,.int .i64 0,.int .i64 0,.bool false,.slice none 0 0,.slice none 0 0] 44)).heap.size=w.heap.size+1+1:=by simp
  rw [hz] at h2
  have hb0:w1.heap[w.heap.size]?=some (.cells #[.int .i64 0,.int .i64 0,.int .i64 0,.int .i64 0,.int .i64 0,.int .i64 0,.bool false,.slice none 0 0,.slice none 0 0] 44 (0,0)):=by
   rw [h2.block w.heap.size (by omega),heap_alloc_old _ _ (by simp)];exact heap_alloc_new _ _
  have hbf:w1.heap[w.heap.size+1]?=some (.cells #[.int .i64 0,.int .i64 0,.int .i64 0,.int .i64 0,.int .i64 0,.int .i64 0,.bool false,.slice none 0 0,.slice none 0 0] 44 (0,0)):=by
   rw [h2.block (w.heap.size+1) (by omega)]
   have:=heap_alloc_new (w.alloc (.cells #[.int .i64 0,.int .i64 0,.int .i64 0,.int .i64 0,.int .i64 0,.int .i64 0,.bool false,.slice none 0 0,.slice none 0 0] 44)) (.cells #[.int .i64 0,.int .i64 0,.int .i64 0,.int .i64 0,.int .i64 0,.int .i64 0,.bool false,.slice none 0 0,.slice none 0 0] 44)
   simpa using this
  have hs1:Hid (w.heap.size+1<w1.heap.size):=by have:=h2.size;rw [hz] at this;show _<_;omega
  have HB1:Hid (Below w.heap.size w w1):=(((Below.refl _ _).alloc (Nat.le_refl _) _).alloc (by simp) _).trans (h2.mono (by omega))
  have c0:=cell_of_row _ _ 0 _ _ _ hbf
  have f0:=frozen_of_row _ _ 0 _ _ hbf
  have HS0:Hid (RdLp w ((w1.setCell ⟨w.heap.size+1,0,none⟩ (.int .i64 9)).alloc (.cells #[.int .i64 0,.int .i64 0,.int .i64 0,.int .i64 0] 103)) 9 ds 0 [] ds A' c' w1.heap.size 9):=by
   have hsz:(w1.setCell ⟨w.heap.size+1,0,none⟩ (.int .i64 9)).heap.size=w1.heap.size:=by simp [World.setCell]
   have hbs:Below w1.heap.size (w1.setCell ⟨w.heap.size+1,0,none⟩ (.int .i64 9)) ((w1.setCell ⟨w.heap.size+1,0,none⟩ (.int .i64 9)).alloc (.cells #[.int .i64 0,.int .i64 0,.int .i64 0,.int .i64 0] 103)):=(Below.refl _ _).alloc (by rw [hsz];exact Nat.le_refl _) _
   refine ⟨rfl,?_,g1,?_,?_,?_,?_⟩
   ·exact own_base ((own_put9 h3 (grown_set (o:=0) (.int .i64 9)) hbf (by decide)).alloc _) (by rw [hz];omega)
   ·rw [hbs.block _ (by have:=hs1.out;omega),heap_setCell_other _ _ _ _ (by show w.heap.size≠w.heap.size+1;omega)];exact hb0
   ·rw [hbs.block _ hs1.out];exact heap_setCell_same _ _ _ _ _ _ hbf
   ·have:=heap_alloc_new (w1.setCell ⟨w.heap.size+1,0,none⟩ (.int .i64 9)) (.cells #[.int .i64 0,.int .i64 0,.int .i64 0,.int .i64 0] 103)
    rw [hsz] at this
    exact this
   ·exact (HB1.out.trans (grown_below (grown_set _) HB1.out.size (by omega))).trans (hbs.mono (by have:=hs1.out;omega))
  clear h2 h3 g1 hz hb0 hbf HT0
  go_wp2_with fail
  obtain ⟨gl,hgl⟩:∃ x,Hid (w1.heap.size=x):=⟨_,rfl⟩
  rw [hgl.out] at HS0 hs1
  rw [hgl.out]
  go_loopw [7,11] (fun rest i wr=>∃ (j:Nat) (ns:List Int) (r:List Nat) (A1:Option Addr) (c1:Nat),j≤0∧rest=.slice A1 r.length c1∧i=.int .i64 (j:Int)∧Hid (RdLp w wr 9 ds j ns r A1 c1 gl 9)) (fun _ i _=>0 - (intOf i).toNat)
  case atStart=>exact ⟨0,[],ds,A',c',by omega,rfl,rfl,HS0⟩
  case round =>
   obtain ⟨j,ns,r,A1,c1,hj,rfl,rfl,HK⟩:=hrel
   obtain ⟨nl,nsub,nlen⟩:=numsO_in j _ HK.out.run
   simp only at nl nsub nlen
   have HBR:Hid (∀ c ∈ r,c<256):=fun c hc=>HBD.out c (nsub c hc)
   have HLR:Hid (r.length≤1000000):=Nat.le_trans nlen HLM.out
   have HT:=Lib.hid (rtake_any r wr.heap.size A1 c1 wr (RdT.of_own HK.out.own).1 (Nat.le_refl _) HBR.out HK.out.cap (by have:=HLR.out;omega))
   clear nsub nlen HS0
   have hjc:j=0:=by omega
   clear hj
   rcases hjc with rfl
   ·skip
    obtain rfl:ns=[]:=List.eq_nil_of_length_eq_zero nl
    clear nl
    rw [show ((0:Nat):Int)=0 from rfl]
    have hlc:wr.heap[gl]?=some (.cells #[.int .i64 0,.int .i64 0,.int .i64 0,.int .i64 0] 103 (0,0)):=HK.out.hl
    have k0:=cell_of_row _ _ 0 _ _ _ hlc
    have k1:=cell_of_row _ _ 1 _ _ _ hlc
    have k2:=cell_of_row _ _ 2 _ _ _ hlc
    have k3:=cell_of_row _ _ 3 _ _ _ hlc
    have x0:=cell_of_row _ _ 0 _ _ _ HK.out.hf
    have x1:=cell_of_row _ _ 1 _ _ _ HK.out.hf
    have x2:=cell_of_row _ _ 2 _ _ _ HK.out.hf
    have x3:=cell_of_row _ _ 3 _ _ _ HK.out.hf
    have x4:=cell_of_row _ _ 4 _ _ _ HK.out.hf
    have x5:=cell_of_row _ _ 5 _ _ _ HK.out.hf
    have x6:=cell_of_row _ _ 6 _ _ _ HK.out.hf
    have x7:=cell_of_row _ _ 7 _ _ _ HK.out.hf
    have x8:=cell_of_row _ _ 8 _ _ _ HK.out.hf
    have HDA:=Lib.hid (rdata_any r _ A1 c1 wr (RdT.of_own (HK.out.own)).1 (Nat.le_refl _) HBR.out HK.out.cap (by have:=HLR.out;omega))
    have HG00:Hid (wr.heap[w.heap.size]?=some (.cells #[.int .i64 0,.int .i64 0,.int .i64 0,.int .i64 0,.int .i64 0,.int .i64 0,.bool false,.slice none 0 0,.slice none 0 0] 44 (0,0))):=by show wr.heap[w.heap.size]?=_;exact HK.out.h0
    have HGF0:Hid (wr.heap[w.heap.size+1]?=some (.cells #[.int .i64 9,.int .i64 0,.int .i64 0,.int .i64 0,.int .i64 0,.int .i64 0,.bool false,.slice none 0 0,.slice none 0 0] 44 (0,0))):=HK.out.hf
    have HBW0:Hid (Below w.heap.size w wr):=HK.out.bel
    obtain ⟨LR,hLR⟩:∃ L,Hid (r.length=L):=⟨_,rfl⟩
    rw [hLR.out] at HDA ⊢
    clear HT
    go_wp2_with fail
    refine HDA.out.mono ?_
    rintro e w4 ⟨hb4,h4⟩
    have HGZ:Hid (w4.heap[w.heap.size]?=some (.cells #[.int .i64 0,.int .i64 0,.int .i64 0,.int .i64 0,.int .i64 0,.int .i64 0,.bool false,.slice none 0 0,.slice none 0 0] 44 (0,0))):=(hb4.block _ (Array.getElem?_eq_some_iff.1 HG00.out).1).trans HG00.out
    have HGK:Hid (w4.heap[w.heap.size+1]?=some (.cells #[.int .i64 9,.int .i64 0,.int .i64 0,.int .i64 0,.int .i64 0,.int .i64 0,.bool false,.slice none 0 0,.slice none 0 0] 44 (0,0))):=(hb4.block _ (Array.getElem?_eq_some_iff.1 HGF0.out).1).trans HGF0.out
    have HB4:Hid (Below w.heap.size w w4):=HBW0.out.trans (hb4.mono HBW0.out.size)
    have q7:=cell_of_row _ _ 7 _ _ _ HGK.out
    have p7:=frozen_of_row _ _ 7 _ _ HGK.out
    rcases h4 with ⟨hdn,er,her,rfl⟩ | ⟨d,r5,hds5,A4,c4,A5,c5,rfl,hd120,ho4,hc5,hr5⟩
    ·clear hb4
     have hern:(er == 0)=false:=by simpa using her
     have HE0:Hid ((w4.setCell ⟨w.heap.size+1,7,none⟩ (.slice none 0 0)).heap[w.heap.size]?=some (.cells #[.int .i64 0,.int .i64 0,.int .i64 0,.int .i64 0,.int .i64 0,.int .i64 0,.bool false,.slice none 0 0,.slice none 0 0] 44 (0,0))):=by show (w4.setCell ⟨w.heap.size+1,7,none⟩ (.slice none 0 0)).heap[w.heap.size]?=_;rw [heap_setCell_other _ _ _ _ (by show w.heap.size≠w.heap.size+1;omega)];exact HGZ.out
     have HEF:Hid ((w4.setCell ⟨w.heap.size+1,7,none⟩ (.slice none 0 0)).heap[w.heap.size+1]?=some (.cells #[.int .i64 9,.int .i64 0,.int .i64 0,.int .i64 0,.int .i64 0,.int .i64 0,.bool false,.slice none 0 0,.slice none 0 0] 44 (0,0))):=(heap_setCell_same _ _ 7 _ _ (.slice none 0 0) HGK.out)
     have HBE:Hid (Below w.heap.size w (w4.setCell ⟨w.heap.size+1,7,none⟩ (.slice none 0 0))):=HB4.out.trans (grown_below (grown_set _) HB4.out.size (by omega))
     have HFN:Hid (frameO bs=none):=by show frameO bs=none;rw [HFO.out,HK.out.run];exact okD_none hdn
     have x0:=cell_of_row _ _ 0 _ _ _ HEF.out
     have x1:=cell_of_row _ _ 1 _ _ _ HEF.out
     have x2:=cell_of_row _ _ 2 _ _ _ HEF.out
     have x3:=cell_of_row _ _ 3 _ _ _ HEF.out
     have x4:=cell_of_row _ _ 4 _ _ _ HEF.out
     have x5:=cell_of_row _ _ 5 _ _ _ HEF.out
     have x6:=cell_of_row _ _ 6 _ _ _ HEF.out
     have x7:=cell_of_row _ _ 7 _ _ _ HEF.out
     have x8:=cell_of_row _ _ 8 _ _ _ HEF.out
     have y0:=cell_of_row _ _ 0 _ _ _ HE0.out
     have z0:=frozen_of_row _ _ 0 _ _ HE0.out
     have y1:=cell_of_row _ _ 1 _ _ _ HE0.out
     have z1:=frozen_of_row _ _ 1 _ _ HE0.out
     have y2:=cell_of_row _ _ 2 _ _ _ HE0.out
     have z2:=frozen_of_row _ _ 2 _ _ HE0.out
     have y3:=cell_of_row _ _ 3 _ _ _ HE0.out
     have z3:=frozen_of_row _ _ 3 _ _ HE0.out
     have y4:=cell_of_row _ _ 4 _ _ _ HE0.out
     have z4:=frozen_of_row _ _ 4 _ _ HE0.out
     have y5:=cell_of_row _ _ 5 _ _ _ HE0.out
     have z5:=frozen_of_row _ _ 5 _ _ HE0.out
     have y6:=cell_of_row _ _ 6 _ _ _ HE0.out
     have z6:=frozen_of_row _ _ 6 _ _ HE0.out
     have y7:=cell_of_row _ _ 7 _ _ _ HE0.out
     have z7:=frozen_of_row _ _ 7 _ _ HE0.out
     have y8:=cell_of_row _ _ 8 _ _ _ HE0.out
     have z8:=frozen_of_row _ _ 8 _ _ HE0.out
     clear hdn
     go_wp2_with fail
     refine bodyPost_ret (results_row3 rfl _ _ w.heap.size #[.int .i64 9,.int .i64 0,.int .i64 0,.int .i64 0,.int .i64 0,.int .i64 0,.bool false,.slice none 0 0,.slice none 0 0] rfl (run_loadVar_row _ _ 44 44 _ (0,0) _ (put9_heap (.int .i64 9) (.int .i64 0) (.int .i64 0) (.int .i64 0) (.int .i64 0) (.int .i64 0) (.bool false) (.slice none 0 0) (.slice none 0 0) HE0.out) Tryd.underlying44 rfl (by kernel_rfl))) rfl ?_
     exact ⟨HBE.out.trans (grown_below (put9_grown _ _ _ _ _ _ _ _ _ _ _) HBE.out.size (Nat.le_refl _)),fun _=>⟨(⟨9,0,0,0,0,0,false,[],[]⟩:Fr),none,0,0,none,0,0,er,her,rfl⟩,fun f r h=>by rw [HFN.out] at h;cases h⟩
    ·skip
     have HG0:Hid ((w4.setCell ⟨w.heap.size+1,7,none⟩ (.slice A4 d.length c4)).heap[w.heap.size]?=some (.cells #[.int .i64 0,.int .i64 0,.int .i64 0,.int .i64 0,.int .i64 0,.int .i64 0,.bool false,.slice none 0 0,.slice none 0 0] 44 (0,0))):=by show (w4.setCell ⟨w.heap.size+1,7,none⟩ (.slice A4 d.length c4)).heap[w.heap.size]?=_;rw [heap_setCell_other _ _ _ _ (by show w.heap.size≠w.heap.size+1;omega)];exact HGZ.out
     have HGF:Hid ((w4.setCell ⟨w.heap.size+1,7,none⟩ (.slice A4 d.length c4)).heap[w.heap.size+1]?=some (.cells #[.int .i64 9,.int .i64 0,.int .i64 0,.int .i64 0,.int .i64 0,.int .i64 0,.bool false,.slice A4 d.length c4,.slice none 0 0] 44 (0,0))):=(heap_setCell_same _ _ 7 _ _ (.slice A4 d.length c4) HGK.out)
     have HBW:Hid (Below w.heap.size w (w4.setCell ⟨w.heap.size+1,7,none⟩ (.slice A4 d.length c4))):=HB4.out.trans (grown_below (grown_set _) HB4.out.size (by omega))
     have HRD:Hid (RdT (w4.setCell ⟨w.heap.size+1,7,none⟩ (.slice A4 d.length c4)) (w4.setCell ⟨w.heap.size+1,7,none⟩ (.slice A4 d.length c4)).heap.size A5 r5.length r5):=(hr5.keep (grown_set (p:=w.heap.size+1) (o:=7) (.slice A4 d.length c4)) (fun k hk=>by cases hk;exact ⟨_,_,_,HGK.out,by decide⟩)).more (by simp [World.setCell])
     have HOD:Hid ((w4.setCell ⟨w.heap.size+1,7,none⟩ (.slice A4 d.length c4)).ownsRow w.heap.size 5 1 (.slice A4 d.length c4) d.length (bv d)):=own_put9 (own_base ho4 HBW0.out.size) (grown_set (o:=7) (.slice A4 d.length c4)) HGK.out (by decide)
     have HRF:Hid (Calls Tryd.prog 51 #[.agg #[.int .i64 9,.int .i64 0,.int .i64 0,.int .i64 0,.int .i64 0,.int .i64 0,.bool false,.slice A4 d.length c4,.slice none 0 0]] (w4.setCell ⟨w.heap.size+1,7,none⟩ (.slice A4 d.length c4)) fun e w'=>e=.returned (.bool (rightB (⟨9,0,0,0,0,0,false,d,[]⟩:Fr)))∧Below (w4.setCell ⟨w.heap.size+1,7,none⟩ (.slice A4 d.length c4)).heap.size (w4.setCell ⟨w.heap.size+1,7,none⟩ (.slice A4 d.length c4)) w'):=by
      have hro:=Rd.of_own HOD.out
      rw [Nat.mul_one] at hro
      exact rright_any (⟨9,0,0,0,0,0,false,d,[]⟩:Fr) A4 d.length c4 none 0 0 _ ⟨rfl,HOD.out |> fun h=>(own_form h).elim (fun A h=>h.elim (fun c h=>by have e:=h.1;simp only [Value.slice.injEq] at e;obtain ⟨rfl,_,rfl⟩:=e;exact h.2.1)),hro,rfl,Nat.le_refl _,Rd.nil _ _ _⟩ (fun c hc=>HBR.out c (dO_mem hds5 c hc))
     obtain ⟨rb,hrb⟩:∃ x,Hid (rightB (⟨9,0,0,0,0,0,false,d,[]⟩:Fr)=x):=⟨_,rfl⟩
     rw [hrb.out] at HRF
     obtain ⟨L5,hL5⟩:∃ L,Hid (r5.length=L):=⟨_,rfl⟩
     have HCD:=Lib.hid hc5
     have HD120:=Lib.hid hd120
     have HDS5:=Lib.hid hds5
     clear hb4 ho4 hr5 hc5 hd120 hds5
     rw [hL5.out]
     have s0:=cell_of_row _ _ 0 _ _ _ HGK.out
     have s1:=cell_of_row _ _ 1 _ _ _ HGK.out
     have s2:=cell_of_row _ _ 2 _ _ _ HGK.out
     have s3:=cell_of_row _ _ 3 _ _ _ HGK.out
     have s4:=cell_of_row _ _ 4 _ _ _ HGK.out
     have s5:=cell_of_row _ _ 5 _ _ _ HGK.out
     have s6:=cell_of_row _ _ 6 _ _ _ HGK.out
     have s7:=cell_of_row _ _ 7 _ _ _ HGK.out
     have s8:=cell_of_row _ _ 8 _ _ _ HGK.out
     go_wp2_with fail
     refine HRF.out.mono ?_
     rintro e w5 ⟨rfl,hb5⟩
     have HH0:Hid (w5.heap[w.heap.size]?=some (.cells #[.int .i64 0,.int .i64 0,.int .i64 0,.int .i64 0,.int .i64 0,.int .i64 0,.bool false,.slice none 0 0,.slice none 0 0] 44 (0,0))):=(hb5.block _ (Array.getElem?_eq_some_iff.1 HG0.out).1).trans HG0.out
     have HHF:Hid (w5.heap[w.heap.size+1]?=some (.cells #[.int .i64 9,.int .i64 0,.int .i64 0,.int .i64 0,.int .i64 0,.int .i64 0,.bool false,.slice A4 d.length c4,.slice none 0 0] 44 (0,0))):=(hb5.block _ (Array.getElem?_eq_some_iff.1 HGF.out).1).trans HGF.out
     have HB5:Hid (Below w.heap.size w w5):=HBW.out.trans (hb5.mono HBW.out.size)
     have HR5:Hid (RdT w5 w5.heap.size A5 r5.length r5):=(HRD.out.below hb5 (Nat.le_refl _)).more hb5.size
     have HO5:Hid (w5.ownsRow w.heap.size 5 1 (.slice A4 d.length c4) d.length (bv d)):=own_below HOD.out hb5
     clear hb5
     cases rb
     ·skip
      have HE0:Hid (w5.heap[w.heap.size]?=some (.cells #[.int .i64 0,.int .i64 0,.int .i64 0,.int .i64 0,.int .i64 0,.int .i64 0,.bool false,.slice none 0 0,.slice none 0 0] 44 (0,0))):=HH0.out
      have HEF:Hid (w5.heap[w.heap.size+1]?=some (.cells #[.int .i64 9,.int .i64 0,.int .i64 0,.int .i64 0,.int .i64 0,.int .i64 0,.bool false,.slice A4 d.length c4,.slice none 0 0] 44 (0,0))):=HHF.out
      have HBE:Hid (Below w.heap.size w w5):=HB5.out
      have HFN:Hid (frameO bs=none):=by show frameO bs=none;rw [HFO.out,HK.out.run];exact (okD_some HDS5.out).trans (okO_no hrb.out)
      have x0:=cell_of_row _ _ 0 _ _ _ HEF.out
      have x1:=cell_of_row _ _ 1 _ _ _ HEF.out
      have x2:=cell_of_row _ _ 2 _ _ _ HEF.out
      have x3:=cell_of_row _ _ 3 _ _ _ HEF.out
      have x4:=cell_of_row _ _ 4 _ _ _ HEF.out
      have x5:=cell_of_row _ _ 5 _ _ _ HEF.out
      have x6:=cell_of_row _ _ 6 _ _ _ HEF.out
      have x7:=cell_of_row _ _ 7 _ _ _ HEF.out
      have x8:=cell_of_row _ _ 8 _ _ _ HEF.out
      have y0:=cell_of_row _ _ 0 _ _ _ HE0.out
      have z0:=frozen_of_row _ _ 0 _ _ HE0.out
      have y1:=cell_of_row _ _ 1 _ _ _ HE0.out
      have z1:=frozen_of_row _ _ 1 _ _ HE0.out
      have y2:=cell_of_row _ _ 2 _ _ _ HE0.out
      have z2:=frozen_of_row _ _ 2 _ _ HE0.out
      have y3:=cell_of_row _ _ 3 _ _ _ HE0.out
      have z3:=frozen_of_row _ _ 3 _ _ HE0.out
      have y4:=cell_of_row _ _ 4 _ _ _ HE0.out
      have z4:=frozen_of_row _ _ 4 _ _ HE0.out
      have y5:=cell_of_row _ _ 5 _ _ _ HE0.out
      have z5:=frozen_of_row _ _ 5 _ _ HE0.out
      have y6:=cell_of_row _ _ 6 _ _ _ HE0.out
      have z6:=frozen_of_row _ _ 6 _ _ HE0.out
      have y7:=cell_of_row _ _ 7 _ _ _ HE0.out
      have z7:=frozen_of_row _ _ 7 _ _ HE0.out
      have y8:=cell_of_row _ _ 8 _ _ _ HE0.out
      have z8:=frozen_of_row _ _ 8 _ _ HE0.out
      skip
      go_wp2_with fail
      refine bodyPost_ret (results_row3 rfl _ _ w.heap.size #[.int .i64 9,.int .i64 0,.int .i64 0,.int .i64 0,.int .i64 0,.int .i64 0,.bool false,.slice A4 d.length c4,.slice none 0 0] rfl (run_loadVar_row _ _ 44 44 _ (0,0) _ (put9_heap (.int .i64 9) (.int .i64 0) (.int .i64 0) (.int .i64 0) (.int .i64 0) (.int .i64 0) (.bool false) (.slice A4 d.length c4) (.slice none 0 0) HE0.out) Tryd.underlying44 rfl (by kernel_rfl))) rfl ?_
      exact ⟨HBE.out.trans (grown_below (put9_grown _ _ _ _ _ _ _ _ _ _ _) HBE.out.size (Nat.le_refl _)),fun _=>⟨(⟨9,0,0,0,0,0,false,d,[]⟩:Fr),A4,d.length,c4,none,0,0,2,by decide,rfl⟩,fun f r h=>by rw [HFN.out] at h;cases h⟩
     ·have HE0:=HH0
      have HEF:=HHF
      have x0:=cell_of_row _ _ 0 _ _ _ HEF.out
      have x1:=cell_of_row _ _ 1 _ _ _ HEF.out
      have x2:=cell_of_row _ _ 2 _ _ _ HEF.out
      have x3:=cell_of_row _ _ 3 _ _ _ HEF.out
      have x4:=cell_of_row _ _ 4 _ _ _ HEF.out
      have x5:=cell_of_row _ _ 5 _ _ _ HEF.out
      have x6:=cell_of_row _ _ 6 _ _ _ HEF.out
      have x7:=cell_of_row _ _ 7 _ _ _ HEF.out
      have x8:=cell_of_row _ _ 8 _ _ _ HEF.out
      have y0:=cell_of_row _ _ 0 _ _ _ HE0.out
      have z0:=frozen_of_row _ _ 0 _ _ HE0.out
      have y1:=cell_of_row _ _ 1 _ _ _ HE0.out
      have z1:=frozen_of_row _ _ 1 _ _ HE0.out
      have y2:=cell_of_row _ _ 2 _ _ _ HE0.out
      have z2:=frozen_of_row _ _ 2 _ _ HE0.out
      have y3:=cell_of_row _ _ 3 _ _ _ HE0.out
      have z3:=frozen_of_row _ _ 3 _ _ HE0.out
      have y4:=cell_of_row _ _ 4 _ _ _ HE0.out
      have z4:=frozen_of_row _ _ 4 _ _ HE0.out
      have y5:=cell_of_row _ _ 5 _ _ _ HE0.out
      have z5:=frozen_of_row _ _ 5 _ _ HE0.out
      have y6:=cell_of_row _ _ 6 _ _ _ HE0.out
      have z6:=frozen_of_row _ _ 6 _ _ HE0.out
      have y7:=cell_of_row _ _ 7 _ _ _ HE0.out
      have z7:=frozen_of_row _ _ 7 _ _ HE0.out
      have y8:=cell_of_row _ _ 8 _ _ _ HE0.out
      have z8:=frozen_of_row _ _ 8 _ _ HE0.out
      have HFS:Hid (frameO bs=some ((⟨9,0,0,0,0,0,false,d,[]⟩:Fr),r5)):=by show frameO bs=_;rw [HFO.out,HK.out.run];exact (okD_some HDS5.out).trans (okO_yes hrb.out)
      go_wp2_with fail
      refine bodyPost_ret (results_row3 rfl _ _ w.heap.size #[.int .i64 9,.int .i64 0,.int .i64 0,.int .i64 0,.int .i64 0,.int .i64 0,.bool false,.slice A4 d.length c4,.slice none 0 0] rfl (run_loadVar_row _ _ 44 44 _ (0,0) _ (put9_heap (.int .i64 9) (.int .i64 0) (.int .i64 0) (.int .i64 0) (.int .i64 0) (.int .i64 0) (.bool false) (.slice A4 d.length c4) (.slice none 0 0) HE0.out) Tryd.underlying44 rfl (by kernel_rfl))) rfl ?_
      have hgr:=put9_grown w5 w.heap.size (.int .i64 9) (.int .i64 0) (.int .i64 0) (.int .i64 0) (.int .i64 0) (.int .i64 0) (.bool false) (.slice A4 d.length c4) (.slice none 0 0)
      refine ⟨HB5.out.trans (grown_below hgr HB5.out.size (Nat.le_refl _)),fun h=>(by rw [HFS.out] at h;cases h),fun f r' h=>?_⟩
      rw [HFS.out] at h
      simp only [Option.some.injEq,Prod.mk.injEq] at h
      obtain ⟨rfl,rfl⟩:=h
      have hkeep:∀ k,some w.heap.size=some k→∃ cur fr e,w5.heap[k]?=some (.cells cur e fr)∧e≠5:=fun k hk=>by cases hk;exact ⟨_,_,_,HE0.out,by decide⟩
      exact ⟨A4,d.length,c4,none,0,0,A5,c5,by rw [hL5.out];rfl,rfl,rfl,HD120.out,by omega,own_put9 HO5.out hgr HE0.out (by decide),own_nil _ _ _ _,HCD.out,(HR5.out.keep hgr hkeep).more hgr.size⟩
end Go.Proofs.YtccljifichaieaaDoor.Rv
