/- Joined texts. Conditions: as each theorem lists them. -/
import Derived.Test.YtccljifichaieaaDoorJUf
import Derived.BigQuiet
import Derived.Outline
import Derived.BigGuard
import Derived.Deep.DeepCutAuto
set_option linter.unusedSimpArgs false
set_option linter.unusedVariables false
set_option maxRecDepth 100000
set_option maxHeartbeats 8000000
namespace Go.Proofs.YtccljifichaieaaDoor.Rv
open Go Go.RowKit
theorem rread_12 (bs:List Nat) (B:Nat) (A:Option Addr) (cap:Nat) (w:World) (hx:Rd w B A bs.length (bv bs)) (hB:B≤w.heap.size) (hb:∀ c ∈ bs,c<256) (hn:bs.length≤cap) (hm:bs.length≤1000000) (W:Nat) (hd:dec bs=some (12,W)) :
  Calls Tryd.prog 59 #[.slice A bs.length cap] w (ReadRP bs w):=by
 have HT0:Hid (∀ W',Below w.heap.size w W'→Calls Tryd.prog 79 #[.slice A bs.length cap] W' fun e w'=>TakeP bs W' e w'):=fun W' h=>rtake_any bs B A cap W' (hx.below h hB) (Nat.le_trans hB h.size) hb hn (by omega)
 have HLD:Hid ((bs.drop W).length=bs.length - W):=by show _=_;rw [List.length_drop]
 have HBD:Hid (∀ c ∈ bs.drop W,c<256):=fun c hc=>hb c (List.mem_of_mem_drop hc)
 have HLM:Hid ((bs.drop W).length≤1000000):=by show _≤_;rw [List.length_drop];omega
 obtain ⟨ds,hds⟩:∃ ds,bs.drop W=ds:=⟨_,rfl⟩
 have HFO:=Lib.hid (frameO_12 hd hds)
 rw [hds] at HLD HBD HLM
 have hds:=Lib.hid hds
 have hd:=Lib.hid hd
 have hix:∀ w,(Instr.index 102 (.agg #[.int .i64 0,.int .i64 0,.int .i64 0,.int .i64 3,.int .i64 4,.int .i64 2,.int .i64 1,.int .i64 2,.int .i64 2,.int .i64 0,.int .i64 1,.int .i64 1,.int .i64 1]) (.int .i64 12)).run Tryd.prog w=.ok (.int .i64 1) w:=fun _=>by kernel_rfl
 clear hx hB hb hn
 go_enter Tryd.func59,Tryd.ntmps59
 go_wp2_with fail
 refine (HT0.out _ (((Below.refl _ _).alloc (Nat.le_refl _) _).alloc (by simp) _)).mono ?_
 rintro e w1 (⟨h1,_⟩ | ⟨v,V,v',h1,rfl,h3,h2⟩)
 ·rw [hd.out] at h1;cases h1
 ·rw [hd.out] at h1
  cases h1
  rw [← HLD.out,hds.out] at h3
  obtain ⟨A',c',rfl,g1,_,_,_⟩:=own_form h3
  rw [show ((12:Nat):Int)=12 from rfl]
  have hz:((w.alloc (.cells #[.int .i64 0,.int .i64 0,.int .i64 0,.int .i64 0,.int .i64 0,.int .i64 0,.bool false,.slice none 0 0,.slice none 0 0] 44)).alloc (.cells #[.int .i64 0,.int .i64 0,.int .i64 0,.int .i64 0,.int .i64 0,.int .i64 0,.bool false,.slice none 0 0,.slice none 0 0] 44)).heap.size=w.heap.size+1+1:=by simp
  rw [hz] at h2
  have hb0:w1.heap[w.heap.size]?=some (.cells #[.int .i64 0,.int .i64 0,.int .i64 0,.int .i64 0,.int .i64 0,.int .i64 0,.bool false,.slice none 0 0,.slice none 0 0] 44 (0,0)):=by
   rw [h2.block w.heap.size (by omega),heap_alloc_old _ _ (by simp)];exact heap_alloc_new _ _
  have hbf:w1.heap[w.heap.size+1]?=some (.cells #[.int .i64 0,.int .i64 0,.int .i64 0,.int .i64 0,.int .i64 0,.int .i64 0,.bool false,.slice none 0 0,.slice none 0 0] 44 (0,0)):=by
   rw [h2.block (w.heap.size+1) (by omega)]
   have:=heap_alloc_new (w.alloc (.cells #[.int .i64 0,.int .i64 0,.int .i64 0,.int .i64 0,.int .i64 0,.int .i64 0,.bool false,.slice none 0 0,.slice none 0 0] 44)) (.cells #[.int .i64 0,.int .i64 0,.int .i64 0,.int .i64 0,.int .i64 0,.int .i64 0,.bool false,.slice none 0 0,.slice none 0 0] 44)
   simpa using this
  have hs1:Hid (w.heap.size+1<w1.heap.size):=by have:=h2.size;rw [hz] at this;show _<_;omega
  have HB1:Hid (Below w.heap.size w w1):=(((Below.refl _ _).alloc (Nat.le_refl _) _).alloc (by simp) _).trans (h2.mono (by omega))
  have c0:=cell_of_row _ _ 0 _ _ _ hbf
  have f0:=frozen_of_row _ _ 0 _ _ hbf
  have HS0:Hid (RdLp w ((w1.setCell ⟨w.heap.size+1,0,none⟩ (.int .i64 12)).alloc (.cells #[.int .i64 0,.int .i64 0,.int .i64 0,.int .i64 0] 103)) 9 ds 0 [] ds A' c' w1.heap.size 12):=by
   have hsz:(w1.setCell ⟨w.heap.size+1,0,none⟩ (.int .i64 12)).heap.size=w1.heap.size:=by simp [World.setCell]
   have hbs:Below w1.heap.size (w1.setCell ⟨w.heap.size+1,0,none⟩ (.int .i64 12)) ((w1.setCell ⟨w.heap.size+1,0,none⟩ (.int .i64 12)).alloc (.cells #[.int .i64 0,.int .i64 0,.int .i64 0,.int .i64 0] 103)):=(Below.refl _ _).alloc (by rw [hsz];exact Nat.le_refl _) _
   refine ⟨rfl,?_,g1,?_,?_,?_,?_⟩
   ·exact own_base ((own_put9 h3 (grown_set (o:=0) (.int .i64 12)) hbf (by decide)).alloc _) (by rw [hz];omega)
   ·rw [hbs.block _ (by have:=hs1.out;omega),heap_setCell_other _ _ _ _ (by show w.heap.size≠w.heap.size+1;omega)];exact hb0
   ·rw [hbs.block _ hs1.out];exact heap_setCell_same _ _ _ _ _ _ hbf
   ·have:=heap_alloc_new (w1.setCell ⟨w.heap.size+1,0,none⟩ (.int .i64 12)) (.cells #[.int .i64 0,.int .i64 0,.int .i64 0,.int .i64 0] 103)
    rw [hsz] at this
    exact this
   ·exact (HB1.out.trans (grown_below (grown_set _) HB1.out.size (by omega))).trans (hbs.mono (by have:=hs1.out;omega))
  clear h2 h3 g1 hz hb0 hbf HT0
  go_wp2_with fail
  obtain ⟨gl,hgl⟩:∃ x,Hid (w1.heap.size=x):=⟨_,rfl⟩
  rw [hgl.out] at HS0 hs1
  rw [hgl.out]
  go_loopw [7,11] (fun rest i wr=>∃ (j:Nat) (ns:List Int) (r:List Nat) (A1:Option Addr) (c1:Nat),j≤1∧rest=.slice A1 r.length c1∧i=.int .i64 (j:Int)∧Hid (RdLp w wr 9 ds j ns r A1 c1 gl 12)) (fun _ i _=>1 - (intOf i).toNat)
  case atStart=>exact ⟨0,[],ds,A',c',by omega,rfl,rfl,HS0⟩
  case round =>
   obtain ⟨j,ns,r,A1,c1,hj,rfl,rfl,HK⟩:=hrel
   obtain ⟨nl,nsub,nlen⟩:=numsO_in j _ HK.out.run
   simp only at nl nsub nlen
   have HBR:Hid (∀ c ∈ r,c<256):=fun c hc=>HBD.out c (nsub c hc)
   have HLR:Hid (r.length≤1000000):=Nat.le_trans nlen HLM.out
   have HT:=Lib.hid (rtake_any r wr.heap.size A1 c1 wr (RdT.of_own HK.out.own).1 (Nat.le_refl _) HBR.out HK.out.cap (by have:=HLR.out;omega))
   clear nsub nlen HS0
   have hjc:j=0∨j=1:=by omega
   clear hj
   rcases hjc with rfl | rfl
   ·skip
    obtain rfl:ns=[]:=List.eq_nil_of_length_eq_zero nl
    clear nl
    rw [show ((0:Nat):Int)=0 from rfl]
    have hlc:wr.heap[gl]?=some (.cells #[.int .i64 0,.int .i64 0,.int .i64 0,.int .i64 0] 103 (0,0)):=HK.out.hl
    obtain ⟨L,hL⟩:∃ L,Hid (r.length=L):=⟨_,rfl⟩
    rw [hL.out] at HT ⊢
    go_wp2_with fail
    refine HT.out.mono ?_
    rintro e w2 (⟨h1,rfl,h2⟩ | ⟨v,V,v',h1,rfl,h3,h2⟩)
    ·skip
     have HE0:Hid (w2.heap[w.heap.size]?=some (.cells #[.int .i64 0,.int .i64 0,.int .i64 0,.int .i64 0,.int .i64 0,.int .i64 0,.bool false,.slice none 0 0,.slice none 0 0] 44 (0,0))):=(h2.block _ (Array.getElem?_eq_some_iff.1 HK.out.h0).1).trans HK.out.h0
     have HEF:Hid (w2.heap[w.heap.size+1]?=some (.cells #[.int .i64 12,.int .i64 0,.int .i64 0,.int .i64 0,.int .i64 0,.int .i64 0,.bool false,.slice none 0 0,.slice none 0 0] 44 (0,0))):=(h2.block _ (Array.getElem?_eq_some_iff.1 HK.out.hf).1).trans HK.out.hf
     have HBE:Hid (Below w.heap.size w w2):=HK.out.bel.trans (h2.mono HK.out.bel.size)
     have HFN:Hid (frameO bs=none):=by show frameO bs=none;rw [HFO.out,numsO_no (show 0<1 by omega) (numsO_stop HK.out.run h1)]
     have x0:=cell_of_row _ _ 0 _ _ _ HEF.out
     have x1:=cell_of_row _ _ 1 _ _ _ HEF.out
     have x2:=cell_of_row _ _ 2 _ _ _ HEF.out
     have x3:=cell_of_row _ _ 3 _ _ _ HEF.out
     have x4:=cell_of_row _ _ 4 _ _ _ HEF.out
     have x5:=cell_of_row _ _ 5 _ _ _ HEF.out
     have x6:=cell_of_row _ _ 6 _ _ _ HEF.out
     have x7:=cell_of_row _ _ 7 _ _ _ HEF.out
     have x8:=cell_of_row _ _ 8 _ _ _ HEF.out
     have y0:=cell_of_row _ _ 0 _ _ _ HE0.out
     have z0:=frozen_of_row _ _ 0 _ _ HE0.out
     have y1:=cell_of_row _ _ 1 _ _ _ HE0.out
     have z1:=frozen_of_row _ _ 1 _ _ HE0.out
     have y2:=cell_of_row _ _ 2 _ _ _ HE0.out
     have z2:=frozen_of_row _ _ 2 _ _ HE0.out
     have y3:=cell_of_row _ _ 3 _ _ _ HE0.out
     have z3:=frozen_of_row _ _ 3 _ _ HE0.out
     have y4:=cell_of_row _ _ 4 _ _ _ HE0.out
     have z4:=frozen_of_row _ _ 4 _ _ HE0.out
     have y5:=cell_of_row _ _ 5 _ _ _ HE0.out
     have z5:=frozen_of_row _ _ 5 _ _ HE0.out
     have y6:=cell_of_row _ _ 6 _ _ _ HE0.out
     have z6:=frozen_of_row _ _ 6 _ _ HE0.out
     have y7:=cell_of_row _ _ 7 _ _ _ HE0.out
     have z7:=frozen_of_row _ _ 7 _ _ HE0.out
     have y8:=cell_of_row _ _ 8 _ _ _ HE0.out
     have z8:=frozen_of_row _ _ 8 _ _ HE0.out
     clear h1 h2 hlc
     go_wp2_with fail
     refine bodyPost_ret (results_row3 rfl _ _ w.heap.size #[.int .i64 12,.int .i64 0,.int .i64 0,.int .i64 0,.int .i64 0,.int .i64 0,.bool false,.slice none 0 0,.slice none 0 0] rfl (run_loadVar_row _ _ 44 44 _ (0,0) _ (put9_heap (.int .i64 12) (.int .i64 0) (.int .i64 0) (.int .i64 0) (.int .i64 0) (.int .i64 0) (.bool false) (.slice none 0 0) (.slice none 0 0) HE0.out) Tryd.underlying44 rfl (by kernel_rfl))) rfl ?_
     exact ⟨HBE.out.trans (grown_below (put9_grown _ _ _ _ _ _ _ _ _ _ _) HBE.out.size (Nat.le_refl _)),fun _=>⟨⟨12,0,0,0,0,0,false,[],[]⟩,none,0,0,none,0,0,3,by decide,rfl⟩,fun f r h=>by rw [HFN.out] at h;cases h⟩
    ·have hvM:v≤4611686018427387903:=dec_lt HBR.out h1
     rw [show r.length - V=(r.drop V).length by rw [List.length_drop]] at h3
     have HG0:Hid (w2.heap[w.heap.size]?=some (.cells #[.int .i64 0,.int .i64 0,.int .i64 0,.int .i64 0,.int .i64 0,.int .i64 0,.bool false,.slice none 0 0,.slice none 0 0] 44 (0,0))):=(h2.block _ (Array.getElem?_eq_some_iff.1 HK.out.h0).1).trans HK.out.h0
     have HGF:Hid (w2.heap[w.heap.size+1]?=some (.cells #[.int .i64 12,.int .i64 0,.int .i64 0,.int .i64 0,.int .i64 0,.int .i64 0,.bool false,.slice none 0 0,.slice none 0 0] 44 (0,0))):=(h2.block _ (Array.getElem?_eq_some_iff.1 HK.out.hf).1).trans HK.out.hf
     have HEL:Hid (w2.heap[gl]?=some (.cells #[.int .i64 0,.int .i64 0,.int .i64 0,.int .i64 0] 103 (0,0))):=(h2.block _ (Array.getElem?_eq_some_iff.1 hlc).1).trans hlc
     have HB2:Hid (Below w.heap.size w w2):=HK.out.bel.trans (h2.mono HK.out.bel.size)
     obtain ⟨A3,c3,rfl,g1,_,_,_⟩:=own_form h3
     have HRUN:Hid (numsO 9 ds (0+1)=if 0=9∧1<v then none else some ([] ++ [(v:Int)],r.drop V)):=numsO_next HK.out.run h1
     obtain ⟨r3,hr3⟩:∃ x,Hid (r.drop V=x):=⟨_,rfl⟩
     rw [hr3.out] at h3 g1 HRUN ⊢
     have HC3:=Lib.hid g1
     have HO3:Hid (w2.ownsRow w.heap.size 5 1 (.slice A3 r3.length c3) r3.length (bv r3)):=own_base h3 HK.out.bel.size
     have k0:=cell_of_row _ _ 0 _ _ _ HEL.out
     have fz:=frozen_of_row _ _ 0 _ _ HEL.out
     clear h1 h2 h3 g1 hlc
     have HN:Hid (RdLp w (w2.setCell ⟨gl,0,none⟩ (.int .i64 (v:Int))) 9 ds (0+1) ([] ++ [(v:Int)]) r3 A3 c3 gl 12):=by
      refine ⟨by rw [HRUN.out,if_neg (by omega)],own_put9 HO3.out (grown_set (o:=0) (.int .i64 (v:Int))) HEL.out (by decide),HC3.out,?_,?_,?_,?_⟩
      ·rw [heap_setCell_other _ _ _ _ (by show w.heap.size≠gl;have:=hs1.out;omega)];exact HG0.out
      ·rw [heap_setCell_other _ _ _ _ (by show w.heap.size+1≠gl;have:=hs1.out;omega)];exact HGF.out
      ·exact heap_setCell_same _ _ _ _ _ _ HEL.out
      ·exact HB2.out.trans (grown_below (grown_set _) HB2.out.size (by have:=hs1.out;omega))
     go_wp2_with fail
     go_roundw
     case rel=>exact ⟨0+1,_,r3,A3,c3,by omega,rfl,by go_num,HN⟩
     case measure=>simp [intOf]
   ·skip
    obtain ⟨n0,rfl⟩:=len1 nl
    clear nl
    rw [show ((1:Nat):Int)=1 from rfl]
    have hlc:wr.heap[gl]?=some (.cells #[.int .i64 n0,.int .i64 0,.int .i64 0,.int .i64 0] 103 (0,0)):=HK.out.hl
    have HGR:Hid (wr.grownBy (wr.setCell ⟨w.heap.size+1,3,none⟩ (.int .i64 n0)) (some (w.heap.size+1))):=(grown_set (o:=3) (.int .i64 n0))
    have k0:=cell_of_row _ _ 0 _ _ _ hlc
    have k1:=cell_of_row _ _ 1 _ _ _ hlc
    have k2:=cell_of_row _ _ 2 _ _ _ hlc
    have k3:=cell_of_row _ _ 3 _ _ _ hlc
    have v3:=cell_of_row _ _ 3 _ _ _ HK.out.hf
    have u3:=frozen_of_row _ _ 3 _ _ HK.out.hf
    have hgg:gl≠w.heap.size+1:=by have:=hs1.out;omega
    have hgg2:w.heap.size+1≠gl:=by have:=hs1.out;omega
    have x0:=cell_of_row _ _ 0 _ _ _ HK.out.hf
    have x1:=cell_of_row _ _ 1 _ _ _ HK.out.hf
    have x2:=cell_of_row _ _ 2 _ _ _ HK.out.hf
    have x3:=cell_of_row _ _ 3 _ _ _ HK.out.hf
    have x4:=cell_of_row _ _ 4 _ _ _ HK.out.hf
    have x5:=cell_of_row _ _ 5 _ _ _ HK.out.hf
    have x6:=cell_of_row _ _ 6 _ _ _ HK.out.hf
    have x7:=cell_of_row _ _ 7 _ _ _ HK.out.hf
    have x8:=cell_of_row _ _ 8 _ _ _ HK.out.hf
    clear HT
    have HG0:Hid ((wr.setCell ⟨w.heap.size+1,3,none⟩ (.int .i64 n0)).heap[w.heap.size]?=some (.cells #[.int .i64 0,.int .i64 0,.int .i64 0,.int .i64 0,.int .i64 0,.int .i64 0,.bool false,.slice none 0 0,.slice none 0 0] 44 (0,0))):=by show (wr.setCell ⟨w.heap.size+1,3,none⟩ (.int .i64 n0)).heap[w.heap.size]?=_;rw [heap_setCell_other _ _ _ _ (by show w.heap.size≠w.heap.size+1;omega)];exact HK.out.h0
    have HGF:Hid ((wr.setCell ⟨w.heap.size+1,3,none⟩ (.int .i64 n0)).heap[w.heap.size+1]?=some (.cells #[.int .i64 12,.int .i64 0,.int .i64 0,.int .i64 n0,.int .i64 0,.int .i64 0,.bool false,.slice none 0 0,.slice none 0 0] 44 (0,0))):=(heap_setCell_same _ _ 3 _ _ (.int .i64 n0) HK.out.hf)
    have HBW:Hid (Below w.heap.size w (wr.setCell ⟨w.heap.size+1,3,none⟩ (.int .i64 n0))):=HK.out.bel.trans (grown_below HGR.out HK.out.bel.size (by omega))
    have HRD:Hid (RdT (wr.setCell ⟨w.heap.size+1,3,none⟩ (.int .i64 n0)) (wr.setCell ⟨w.heap.size+1,3,none⟩ (.int .i64 n0)).heap.size A1 r.length r):=RdT.of_own (own_put9 HK.out.own HGR.out HK.out.hf (by decide))
    have HRF:Hid (Calls Tryd.prog 51 #[.agg #[.int .i64 12,.int .i64 0,.int .i64 0,.int .i64 n0,.int .i64 0,.int .i64 0,.bool false,.slice none 0 0,.slice none 0 0]] (wr.setCell ⟨w.heap.size+1,3,none⟩ (.int .i64 n0)) fun e w'=>e=.returned (.bool (rightB (⟨12,0,0,n0,0,0,false,[],[]⟩:Fr)))∧Below (wr.setCell ⟨w.heap.size+1,3,none⟩ (.int .i64 n0)).heap.size (wr.setCell ⟨w.heap.size+1,3,none⟩ (.int .i64 n0)) w'):=rright_any (⟨12,0,0,n0,0,0,false,[],[]⟩:Fr) none 0 0 none 0 0 _ ⟨rfl,Nat.le_refl _,Rd.nil _ _ _,rfl,Nat.le_refl _,Rd.nil _ _ _⟩ (fun c hc=>by cases hc)
    obtain ⟨rb,hrb⟩:∃ x,Hid (rightB (⟨12,0,0,n0,0,0,false,[],[]⟩:Fr)=x):=⟨_,rfl⟩
    rw [hrb.out] at HRF
    obtain ⟨LR,hLR⟩:∃ L,Hid (r.length=L):=⟨_,rfl⟩
    rw [hLR.out]
    go_wp2_with fail
    refine HRF.out.mono ?_
    rintro e w5 ⟨rfl,hb5⟩
    have HH0:Hid (w5.heap[w.heap.size]?=some (.cells #[.int .i64 0,.int .i64 0,.int .i64 0,.int .i64 0,.int .i64 0,.int .i64 0,.bool false,.slice none 0 0,.slice none 0 0] 44 (0,0))):=(hb5.block _ (Array.getElem?_eq_some_iff.1 HG0.out).1).trans HG0.out
    have HHF:Hid (w5.heap[w.heap.size+1]?=some (.cells #[.int .i64 12,.int .i64 0,.int .i64 0,.int .i64 n0,.int .i64 0,.int .i64 0,.bool false,.slice none 0 0,.slice none 0 0] 44 (0,0))):=(hb5.block _ (Array.getElem?_eq_some_iff.1 HGF.out).1).trans HGF.out
    have HB5:Hid (Below w.heap.size w w5):=HBW.out.trans (hb5.mono HBW.out.size)
    have HR5:Hid (RdT w5 w5.heap.size A1 r.length r):=(HRD.out.below hb5 (Nat.le_refl _)).more hb5.size
    clear hb5
    cases rb
    ·skip
     have HE0:Hid (w5.heap[w.heap.size]?=some (.cells #[.int .i64 0,.int .i64 0,.int .i64 0,.int .i64 0,.int .i64 0,.int .i64 0,.bool false,.slice none 0 0,.slice none 0 0] 44 (0,0))):=HH0.out
     have HEF:Hid (w5.heap[w.heap.size+1]?=some (.cells #[.int .i64 12,.int .i64 0,.int .i64 0,.int .i64 n0,.int .i64 0,.int .i64 0,.bool false,.slice none 0 0,.slice none 0 0] 44 (0,0))):=HHF.out
     have HBE:Hid (Below w.heap.size w w5):=HB5.out
     have HFN:Hid (frameO bs=none):=by show frameO bs=none;rw [HFO.out,HK.out.run];exact okO_no hrb.out
     have x0:=cell_of_row _ _ 0 _ _ _ HEF.out
     have x1:=cell_of_row _ _ 1 _ _ _ HEF.out
     have x2:=cell_of_row _ _ 2 _ _ _ HEF.out
     have x3:=cell_of_row _ _ 3 _ _ _ HEF.out
     have x4:=cell_of_row _ _ 4 _ _ _ HEF.out
     have x5:=cell_of_row _ _ 5 _ _ _ HEF.out
     have x6:=cell_of_row _ _ 6 _ _ _ HEF.out
     have x7:=cell_of_row _ _ 7 _ _ _ HEF.out
     have x8:=cell_of_row _ _ 8 _ _ _ HEF.out
     have y0:=cell_of_row _ _ 0 _ _ _ HE0.out
     have z0:=frozen_of_row _ _ 0 _ _ HE0.out
     have y1:=cell_of_row _ _ 1 _ _ _ HE0.out
     have z1:=frozen_of_row _ _ 1 _ _ HE0.out
     have y2:=cell_of_row _ _ 2 _ _ _ HE0.out
     have z2:=frozen_of_row _ _ 2 _ _ HE0.out
     have y3:=cell_of_row _ _ 3 _ _ _ HE0.out
     have z3:=frozen_of_row _ _ 3 _ _ HE0.out
     have y4:=cell_of_row _ _ 4 _ _ _ HE0.out
     have z4:=frozen_of_row _ _ 4 _ _ HE0.out
     have y5:=cell_of_row _ _ 5 _ _ _ HE0.out
     have z5:=frozen_of_row _ _ 5 _ _ HE0.out
     have y6:=cell_of_row _ _ 6 _ _ _ HE0.out
     have z6:=frozen_of_row _ _ 6 _ _ HE0.out
     have y7:=cell_of_row _ _ 7 _ _ _ HE0.out
     have z7:=frozen_of_row _ _ 7 _ _ HE0.out
     have y8:=cell_of_row _ _ 8 _ _ _ HE0.out
     have z8:=frozen_of_row _ _ 8 _ _ HE0.out
     skip
     go_wp2_with fail
     refine bodyPost_ret (results_row3 rfl _ _ w.heap.size #[.int .i64 12,.int .i64 0,.int .i64 0,.int .i64 n0,.int .i64 0,.int .i64 0,.bool false,.slice none 0 0,.slice none 0 0] rfl (run_loadVar_row _ _ 44 44 _ (0,0) _ (put9_heap (.int .i64 12) (.int .i64 0) (.int .i64 0) (.int .i64 n0) (.int .i64 0) (.int .i64 0) (.bool false) (.slice none 0 0) (.slice none 0 0) HE0.out) Tryd.underlying44 rfl (by kernel_rfl))) rfl ?_
     exact ⟨HBE.out.trans (grown_below (put9_grown _ _ _ _ _ _ _ _ _ _ _) HBE.out.size (Nat.le_refl _)),fun _=>⟨(⟨12,0,0,n0,0,0,false,[],[]⟩:Fr),none,0,0,none,0,0,2,by decide,rfl⟩,fun f r h=>by rw [HFN.out] at h;cases h⟩
    ·have HE0:=HH0
     have HEF:=HHF
     have x0:=cell_of_row _ _ 0 _ _ _ HEF.out
     have x1:=cell_of_row _ _ 1 _ _ _ HEF.out
     have x2:=cell_of_row _ _ 2 _ _ _ HEF.out
     have x3:=cell_of_row _ _ 3 _ _ _ HEF.out
     have x4:=cell_of_row _ _ 4 _ _ _ HEF.out
     have x5:=cell_of_row _ _ 5 _ _ _ HEF.out
     have x6:=cell_of_row _ _ 6 _ _ _ HEF.out
     have x7:=cell_of_row _ _ 7 _ _ _ HEF.out
     have x8:=cell_of_row _ _ 8 _ _ _ HEF.out
     have y0:=cell_of_row _ _ 0 _ _ _ HE0.out
     have z0:=frozen_of_row _ _ 0 _ _ HE0.out
     have y1:=cell_of_row _ _ 1 _ _ _ HE0.out
     have z1:=frozen_of_row _ _ 1 _ _ HE0.out
     have y2:=cell_of_row _ _ 2 _ _ _ HE0.out
     have z2:=frozen_of_row _ _ 2 _ _ HE0.out
     have y3:=cell_of_row _ _ 3 _ _ _ HE0.out
     have z3:=frozen_of_row _ _ 3 _ _ HE0.out
     have y4:=cell_of_row _ _ 4 _ _ _ HE0.out
     have z4:=frozen_of_row _ _ 4 _ _ HE0.out
     have y5:=cell_of_row _ _ 5 _ _ _ HE0.out
     have z5:=frozen_of_row _ _ 5 _ _ HE0.out
     have y6:=cell_of_row _ _ 6 _ _ _ HE0.out
     have z6:=frozen_of_row _ _ 6 _ _ HE0.out
     have y7:=cell_of_row _ _ 7 _ _ _ HE0.out
     have z7:=frozen_of_row _ _ 7 _ _ HE0.out
     have y8:=cell_of_row _ _ 8 _ _ _ HE0.out
     have z8:=frozen_of_row _ _ 8 _ _ HE0.out
     have HFS:Hid (frameO bs=some ((⟨12,0,0,n0,0,0,false,[],[]⟩:Fr),r)):=by show frameO bs=_;rw [HFO.out,HK.out.run];exact okO_yes hrb.out
     go_wp2_with fail
     refine bodyPost_ret (results_row3 rfl _ _ w.heap.size #[.int .i64 12,.int .i64 0,.int .i64 0,.int .i64 n0,.int .i64 0,.int .i64 0,.bool false,.slice none 0 0,.slice none 0 0] rfl (run_loadVar_row _ _ 44 44 _ (0,0) _ (put9_heap (.int .i64 12) (.int .i64 0) (.int .i64 0) (.int .i64 n0) (.int .i64 0) (.int .i64 0) (.bool false) (.slice none 0 0) (.slice none 0 0) HE0.out) Tryd.underlying44 rfl (by kernel_rfl))) rfl ?_
     have hgr:=put9_grown w5 w.heap.size (.int .i64 12) (.int .i64 0) (.int .i64 0) (.int .i64 n0) (.int .i64 0) (.int .i64 0) (.bool false) (.slice none 0 0) (.slice none 0 0)
     refine ⟨HB5.out.trans (grown_below hgr HB5.out.size (Nat.le_refl _)),fun h=>(by rw [HFS.out] at h;cases h),fun f r' h=>?_⟩
     rw [HFS.out] at h
     simp only [Option.some.injEq,Prod.mk.injEq] at h
     obtain ⟨rfl,rfl⟩:=h
     have hkeep:∀ k,some w.heap.size=some k→∃ cur fr e,w5.heap[k]?=some (.cells cur e fr)∧e≠5:=fun k hk=>by cases hk;exact ⟨_,_,_,HE0.out,by decide⟩
     exact ⟨none,0,0,none,0,0,A1,c1,by rw [hLR.out];rfl,rfl,rfl,by omega,by omega,own_nil _ _ _ _,own_nil _ _ _ _,HK.out.cap,(HR5.out.keep hgr hkeep).more hgr.size⟩
theorem rread_6 (bs:List Nat) (B:Nat) (A:Option Addr) (cap:Nat) (w:World) (hx:Rd w B A bs.length (bv bs)) (hB:B≤w.heap.size) (hb:∀ c ∈ bs,c<256) (hn:bs.length≤cap) (hm:bs.length≤1000000) (W:Nat) (hd:dec bs=some (6,W)) :
  Calls Tryd.prog 59 #[.slice A bs.length cap] w (ReadRP bs w):=by
 have HT0:Hid (∀ W',Below w.heap.size w W'→Calls Tryd.prog 79 #[.slice A bs.length cap] W' fun e w'=>TakeP bs W' e w'):=fun W' h=>rtake_any bs B A cap W' (hx.below h hB) (Nat.le_trans hB h.size) hb hn (by omega)
 have HLD:Hid ((bs.drop W).length=bs.length - W):=by show _=_;rw [List.length_drop]
 have HBD:Hid (∀ c ∈ bs.drop W,c<256):=fun c hc=>hb c (List.mem_of_mem_drop hc)
 have HLM:Hid ((bs.drop W).length≤1000000):=by show _≤_;rw [List.length_drop];omega
 obtain ⟨ds,hds⟩:∃ ds,bs.drop W=ds:=⟨_,rfl⟩
 have HFO:=Lib.hid (frameO_6 hd hds)
 rw [hds] at HLD HBD HLM
 have hds:=Lib.hid hds
 have hd:=Lib.hid hd
 have hix:∀ w,(Instr.index 102 (.agg #[.int .i64 0,.int .i64 0,.int .i64 0,.int .i64 3,.int .i64 4,.int .i64 2,.int .i64 1,.int .i64 2,.int .i64 2,.int .i64 0,.int .i64 1,.int .i64 1,.int .i64 1]) (.int .i64 6)).run Tryd.prog w=.ok (.int .i64 1) w:=fun _=>by kernel_rfl
 clear hx hB hb hn
 go_enter Tryd.func59,Tryd.ntmps59
 go_wp2_with fail
 refine (HT0.out _ (((Below.refl _ _).alloc (Nat.le_refl _) _).alloc (by simp) _)).mono ?_
 rintro e w1 (⟨h1,_⟩ | ⟨v,V,v',h1,rfl,h3,h2⟩)
 ·rw [hd.out] at h1;cases h1
 ·rw [hd.out] at h1
  cases h1
  rw [← HLD.out,hds.out] at h3
  obtain ⟨A',c',rfl,g1,_,_,_⟩:=own_form h3
  rw [show ((6:Nat):Int)=6 from rfl]
  have hz:((w.alloc (.cells #[.int .i64 0,.int .i64 0,.int .i64 0,.int .i64 0,.int .i64 0,.int .i64 0,.bool false,.slice none 0 0,.slice none 0 0] 44)).alloc (.cells #[.int .i64 0,.int .i64 0,.int .i64 0,.int .i64 0,.int .i64 0,.int .i64 0,.bool false,.slice none 0 0,.slice none 0 0] 44)).heap.size=w.heap.size+1+1:=by simp
  rw [hz] at h2
  have hb0:w1.heap[w.heap.size]?=some (.cells #[.int .i64 0,.int .i64 0,.int .i64 0,.int .i64 0,.int .i64 0,.int .i64 0,.bool false,.slice none 0 0,.slice none 0 0] 44 (0,0)):=by
   rw [h2.block w.heap.size (by omega),heap_alloc_old _ _ (by simp)];exact heap_alloc_new _ _
  have hbf:w1.heap[w.heap.size+1]?=some (.cells #[.int .i64 0,.int .i64 0,.int .i64 0,.int .i64 0,.int .i64 0,.int .i64 0,.bool false,.slice none 0 0,.slice none 0 0] 44 (0,0)):=by
   rw [h2.block (w.heap.size+1) (by omega)]
   have:=heap_alloc_new (w.alloc (.cells #[.int .i64 0,.int .i64 0,.int .i64 0,.int .i64 0,.int .i64 0,.int .i64 0,.bool false,.slice none 0 0,.slice none 0 0] 44)) (.cells #[.int .i64 0,.int .i64 0,.int .i64 0,.int .i64 0,.int .i64 0,.int .i64 0,.bool false,.slice none 0 0,.slice none 0 0] 44)
   simpa using this
  have hs1:Hid (w.heap.size+1<w1.heap.size):=by have:=h2.size;rw [hz] at this;show _<_;omega
  have HB1:Hid (Below w.heap.size w w1):=(((Below.refl _ _).alloc (Nat.le_refl _) _).alloc (by simp) _).trans (h2.mono (by omega))
  have c0:=cell_of_row _ _ 0 _ _ _ hbf
  have f0:=frozen_of_row _ _ 0 _ _ hbf
  have HS0:Hid (RdLp w ((w1.setCell ⟨w.heap.size+1,0,none⟩ (.int .i64 6)).alloc (.cells #[.int .i64 0,.int .i64 0,.int .i64 0,.int .i64 0] 103)) 9 ds 0 [] ds A' c' w1.heap.size 6):=by
   have hsz:(w1.setCell ⟨w.heap.size+1,0,none⟩ (.int .i64 6)).heap.size=w1.heap.size:=by simp [World.setCell]
   have hbs:Below w1.heap.size (w1.setCell ⟨w.heap.size+1,0,none⟩ (.int .i64 6)) ((w1.setCell ⟨w.heap.size+1,0,none⟩ (.int .i64 6)).alloc (.cells #[.int .i64 0,.int .i64 0,.int .i64 0,.int .i64 0] 103)):=(Below.refl _ _).alloc (by rw [hsz];exact Nat.le_refl _) _
   refine ⟨rfl,?_,g1,?_,?_,?_,?_⟩
   ·exact own_base ((own_put9 h3 (grown_set (o:=0) (.int .i64 6)) hbf (by decide)).alloc _) (by rw [hz];omega)
   ·rw [hbs.block _ (by have:=hs1.out;omega),heap_setCell_other _ _ _ _ (by show w.heap.size≠w.heap.size+1;omega)];exact hb0
   ·rw [hbs.block _ hs1.out];exact heap_setCell_same _ _ _ _ _ _ hbf
   ·have:=heap_alloc_new (w1.setCell ⟨w.heap.size+1,0,none⟩ (.int .i64 6)) (.cells #[.int .i64 0,.int .i64 0,.int .i64 0,.int .i64 0] 103)
    rw [hsz] at this
    exact this
   ·exact (HB1.out.trans (grown_below (grown_set _) HB1.out.size (by omega))).trans (hbs.mono (by have:=hs1.out;omega))
  clear h2 h3 g1 hz hb0 hbf HT0
  go_wp2_with fail
  obtain ⟨gl,hgl⟩:∃ x,Hid (w1.heap.size=x):=⟨_,rfl⟩
  rw [hgl.out] at HS0 hs1
  rw [hgl.out]
  go_loopw [7,11] (fun rest i wr=>∃ (j:Nat) (ns:List Int) (r:List Nat) (A1:Option Addr) (c1:Nat),j≤1∧rest=.slice A1 r.length c1∧i=.int .i64 (j:Int)∧Hid (RdLp w wr 9 ds j ns r A1 c1 gl 6)) (fun _ i _=>1 - (intOf i).toNat)
  case atStart=>exact ⟨0,[],ds,A',c',by omega,rfl,rfl,HS0⟩
  case round =>
   obtain ⟨j,ns,r,A1,c1,hj,rfl,rfl,HK⟩:=hrel
   obtain ⟨nl,nsub,nlen⟩:=numsO_in j _ HK.out.run
   simp only at nl nsub nlen
   have HBR:Hid (∀ c ∈ r,c<256):=fun c hc=>HBD.out c (nsub c hc)
   have HLR:Hid (r.length≤1000000):=Nat.le_trans nlen HLM.out
   have HT:=Lib.hid (rtake_any r wr.heap.size A1 c1 wr (RdT.of_own HK.out.own).1 (Nat.le_refl _) HBR.out HK.out.cap (by have:=HLR.out;omega))
   clear nsub nlen HS0
   have hjc:j=0∨j=1:=by omega
   clear hj
   rcases hjc with rfl | rfl
   ·skip
    obtain rfl:ns=[]:=List.eq_nil_of_length_eq_zero nl
    clear nl
    rw [show ((0:Nat):Int)=0 from rfl]
    have hlc:wr.heap[gl]?=some (.cells #[.int .i64 0,.int .i64 0,.int .i64 0,.int .i64 0] 103 (0,0)):=HK.out.hl
    obtain ⟨L,hL⟩:∃ L,Hid (r.length=L):=⟨_,rfl⟩
    rw [hL.out] at HT ⊢
    go_wp2_with fail
    refine HT.out.mono ?_
    rintro e w2 (⟨h1,rfl,h2⟩ | ⟨v,V,v',h1,rfl,h3,h2⟩)
    ·skip
     have HE0:Hid (w2.heap[w.heap.size]?=some (.cells #[.int .i64 0,.int .i64 0,.int .i64 0,.int .i64 0,.int .i64 0,.int .i64 0,.bool false,.slice none 0 0,.slice none 0 0] 44 (0,0))):=(h2.block _ (Array.getElem?_eq_some_iff.1 HK.out.h0).1).trans HK.out.h0
     have HEF:Hid (w2.heap[w.heap.size+1]?=some (.cells #[.int .i64 6,.int .i64 0,.int .i64 0,.int .i64 0,.int .i64 0,.int .i64 0,.bool false,.slice none 0 0,.slice none 0 0] 44 (0,0))):=(h2.block _ (Array.getElem?_eq_some_iff.1 HK.out.hf).1).trans HK.out.hf
     have HBE:Hid (Below w.heap.size w w2):=HK.out.bel.trans (h2.mono HK.out.bel.size)
     have HFN:Hid (frameO bs=none):=by show frameO bs=none;rw [HFO.out,numsO_no (show 0<1 by omega) (numsO_stop HK.out.run h1)]
     have x0:=cell_of_row _ _ 0 _ _ _ HEF.out
     have x1:=cell_of_row _ _ 1 _ _ _ HEF.out
     have x2:=cell_of_row _ _ 2 _ _ _ HEF.out
     have x3:=cell_of_row _ _ 3 _ _ _ HEF.out
     have x4:=cell_of_row _ _ 4 _ _ _ HEF.out
     have x5:=cell_of_row _ _ 5 _ _ _ HEF.out
     have x6:=cell_of_row _ _ 6 _ _ _ HEF.out
     have x7:=cell_of_row _ _ 7 _ _ _ HEF.out
     have x8:=cell_of_row _ _ 8 _ _ _ HEF.out
     have y0:=cell_of_row _ _ 0 _ _ _ HE0.out
     have z0:=frozen_of_row _ _ 0 _ _ HE0.out
     have y1:=cell_of_row _ _ 1 _ _ _ HE0.out
     have z1:=frozen_of_row _ _ 1 _ _ HE0.out
     have y2:=cell_of_row _ _ 2 _ _ _ HE0.out
     have z2:=frozen_of_row _ _ 2 _ _ HE0.out
     have y3:=cell_of_row _ _ 3 _ _ _ HE0.out
     have z3:=frozen_of_row _ _ 3 _ _ HE0.out
     have y4:=cell_of_row _ _ 4 _ _ _ HE0.out
     have z4:=frozen_of_row _ _ 4 _ _ HE0.out
     have y5:=cell_of_row _ _ 5 _ _ _ HE0.out
     have z5:=frozen_of_row _ _ 5 _ _ HE0.out
     have y6:=cell_of_row _ _ 6 _ _ _ HE0.out
     have z6:=frozen_of_row _ _ 6 _ _ HE0.out
     have y7:=cell_of_row _ _ 7 _ _ _ HE0.out
     have z7:=frozen_of_row _ _ 7 _ _ HE0.out
     have y8:=cell_of_row _ _ 8 _ _ _ HE0.out
     have z8:=frozen_of_row _ _ 8 _ _ HE0.out
     clear h1 h2 hlc
     go_wp2_with fail
     refine bodyPost_ret (results_row3 rfl _ _ w.heap.size #[.int .i64 6,.int .i64 0,.int .i64 0,.int .i64 0,.int .i64 0,.int .i64 0,.bool false,.slice none 0 0,.slice none 0 0] rfl (run_loadVar_row _ _ 44 44 _ (0,0) _ (put9_heap (.int .i64 6) (.int .i64 0) (.int .i64 0) (.int .i64 0) (.int .i64 0) (.int .i64 0) (.bool false) (.slice none 0 0) (.slice none 0 0) HE0.out) Tryd.underlying44 rfl (by kernel_rfl))) rfl ?_
     exact ⟨HBE.out.trans (grown_below (put9_grown _ _ _ _ _ _ _ _ _ _ _) HBE.out.size (Nat.le_refl _)),fun _=>⟨⟨6,0,0,0,0,0,false,[],[]⟩,none,0,0,none,0,0,3,by decide,rfl⟩,fun f r h=>by rw [HFN.out] at h;cases h⟩
    ·have hvM:v≤4611686018427387903:=dec_lt HBR.out h1
     rw [show r.length - V=(r.drop V).length by rw [List.length_drop]] at h3
     have HG0:Hid (w2.heap[w.heap.size]?=some (.cells #[.int .i64 0,.int .i64 0,.int .i64 0,.int .i64 0,.int .i64 0,.int .i64 0,.bool false,.slice none 0 0,.slice none 0 0] 44 (0,0))):=(h2.block _ (Array.getElem?_eq_some_iff.1 HK.out.h0).1).trans HK.out.h0
     have HGF:Hid (w2.heap[w.heap.size+1]?=some (.cells #[.int .i64 6,.int .i64 0,.int .i64 0,.int .i64 0,.int .i64 0,.int .i64 0,.bool false,.slice none 0 0,.slice none 0 0] 44 (0,0))):=(h2.block _ (Array.getElem?_eq_some_iff.1 HK.out.hf).1).trans HK.out.hf
     have HEL:Hid (w2.heap[gl]?=some (.cells #[.int .i64 0,.int .i64 0,.int .i64 0,.int .i64 0] 103 (0,0))):=(h2.block _ (Array.getElem?_eq_some_iff.1 hlc).1).trans hlc
     have HB2:Hid (Below w.heap.size w w2):=HK.out.bel.trans (h2.mono HK.out.bel.size)
     obtain ⟨A3,c3,rfl,g1,_,_,_⟩:=own_form h3
     have HRUN:Hid (numsO 9 ds (0+1)=if 0=9∧1<v then none else some ([] ++ [(v:Int)],r.drop V)):=numsO_next HK.out.run h1
     obtain ⟨r3,hr3⟩:∃ x,Hid (r.drop V=x):=⟨_,rfl⟩
     rw [hr3.out] at h3 g1 HRUN ⊢
     have HC3:=Lib.hid g1
     have HO3:Hid (w2.ownsRow w.heap.size 5 1 (.slice A3 r3.length c3) r3.length (bv r3)):=own_base h3 HK.out.bel.size
     have k0:=cell_of_row _ _ 0 _ _ _ HEL.out
     have fz:=frozen_of_row _ _ 0 _ _ HEL.out
     clear h1 h2 h3 g1 hlc
     have HN:Hid (RdLp w (w2.setCell ⟨gl,0,none⟩ (.int .i64 (v:Int))) 9 ds (0+1) ([] ++ [(v:Int)]) r3 A3 c3 gl 6):=by
      refine ⟨by rw [HRUN.out,if_neg (by omega)],own_put9 HO3.out (grown_set (o:=0) (.int .i64 (v:Int))) HEL.out (by decide),HC3.out,?_,?_,?_,?_⟩
      ·rw [heap_setCell_other _ _ _ _ (by show w.heap.size≠gl;have:=hs1.out;omega)];exact HG0.out
      ·rw [heap_setCell_other _ _ _ _ (by show w.heap.size+1≠gl;have:=hs1.out;omega)];exact HGF.out
      ·exact heap_setCell_same _ _ _ _ _ _ HEL.out
      ·exact HB2.out.trans (grown_below (grown_set _) HB2.out.size (by have:=hs1.out;omega))
     go_wp2_with fail
     go_roundw
     case rel=>exact ⟨0+1,_,r3,A3,c3,by omega,rfl,by go_num,HN⟩
     case measure=>simp [intOf]
   ·skip
    obtain ⟨n0,rfl⟩:=len1 nl
    clear nl
    rw [show ((1:Nat):Int)=1 from rfl]
    have hlc:wr.heap[gl]?=some (.cells #[.int .i64 n0,.int .i64 0,.int .i64 0,.int .i64 0] 103 (0,0)):=HK.out.hl
    have HGR:Hid (wr.grownBy (wr.setCell ⟨w.heap.size+1,3,none⟩ (.int .i64 n0)) (some (w.heap.size+1))):=(grown_set (o:=3) (.int .i64 n0))
    have k0:=cell_of_row _ _ 0 _ _ _ hlc
    have k1:=cell_of_row _ _ 1 _ _ _ hlc
    have k2:=cell_of_row _ _ 2 _ _ _ hlc
    have k3:=cell_of_row _ _ 3 _ _ _ hlc
    have v3:=cell_of_row _ _ 3 _ _ _ HK.out.hf
    have u3:=frozen_of_row _ _ 3 _ _ HK.out.hf
    have hgg:gl≠w.heap.size+1:=by have:=hs1.out;omega
    have hgg2:w.heap.size+1≠gl:=by have:=hs1.out;omega
    have x0:=cell_of_row _ _ 0 _ _ _ HK.out.hf
    have x1:=cell_of_row _ _ 1 _ _ _ HK.out.hf
    have x2:=cell_of_row _ _ 2 _ _ _ HK.out.hf
    have x3:=cell_of_row _ _ 3 _ _ _ HK.out.hf
    have x4:=cell_of_row _ _ 4 _ _ _ HK.out.hf
    have x5:=cell_of_row _ _ 5 _ _ _ HK.out.hf
    have x6:=cell_of_row _ _ 6 _ _ _ HK.out.hf
    have x7:=cell_of_row _ _ 7 _ _ _ HK.out.hf
    have x8:=cell_of_row _ _ 8 _ _ _ HK.out.hf
    clear HT
    have HG0:Hid ((wr.setCell ⟨w.heap.size+1,3,none⟩ (.int .i64 n0)).heap[w.heap.size]?=some (.cells #[.int .i64 0,.int .i64 0,.int .i64 0,.int .i64 0,.int .i64 0,.int .i64 0,.bool false,.slice none 0 0,.slice none 0 0] 44 (0,0))):=by show (wr.setCell ⟨w.heap.size+1,3,none⟩ (.int .i64 n0)).heap[w.heap.size]?=_;rw [heap_setCell_other _ _ _ _ (by show w.heap.size≠w.heap.size+1;omega)];exact HK.out.h0
    have HGF:Hid ((wr.setCell ⟨w.heap.size+1,3,none⟩ (.int .i64 n0)).heap[w.heap.size+1]?=some (.cells #[.int .i64 6,.int .i64 0,.int .i64 0,.int .i64 n0,.int .i64 0,.int .i64 0,.bool false,.slice none 0 0,.slice none 0 0] 44 (0,0))):=(heap_setCell_same _ _ 3 _ _ (.int .i64 n0) HK.out.hf)
    have HBW:Hid (Below w.heap.size w (wr.setCell ⟨w.heap.size+1,3,none⟩ (.int .i64 n0))):=HK.out.bel.trans (grown_below HGR.out HK.out.bel.size (by omega))
    have HRD:Hid (RdT (wr.setCell ⟨w.heap.size+1,3,none⟩ (.int .i64 n0)) (wr.setCell ⟨w.heap.size+1,3,none⟩ (.int .i64 n0)).heap.size A1 r.length r):=RdT.of_own (own_put9 HK.out.own HGR.out HK.out.hf (by decide))
    have HRF:Hid (Calls Tryd.prog 51 #[.agg #[.int .i64 6,.int .i64 0,.int .i64 0,.int .i64 n0,.int .i64 0,.int .i64 0,.bool false,.slice none 0 0,.slice none 0 0]] (wr.setCell ⟨w.heap.size+1,3,none⟩ (.int .i64 n0)) fun e w'=>e=.returned (.bool (rightB (⟨6,0,0,n0,0,0,false,[],[]⟩:Fr)))∧Below (wr.setCell ⟨w.heap.size+1,3,none⟩ (.int .i64 n0)).heap.size (wr.setCell ⟨w.heap.size+1,3,none⟩ (.int .i64 n0)) w'):=rright_any (⟨6,0,0,n0,0,0,false,[],[]⟩:Fr) none 0 0 none 0 0 _ ⟨rfl,Nat.le_refl _,Rd.nil _ _ _,rfl,Nat.le_refl _,Rd.nil _ _ _⟩ (fun c hc=>by cases hc)
    obtain ⟨rb,hrb⟩:∃ x,Hid (rightB (⟨6,0,0,n0,0,0,false,[],[]⟩:Fr)=x):=⟨_,rfl⟩
    rw [hrb.out] at HRF
    obtain ⟨LR,hLR⟩:∃ L,Hid (r.length=L):=⟨_,rfl⟩
    rw [hLR.out]
    go_wp2_with fail
    refine HRF.out.mono ?_
    rintro e w5 ⟨rfl,hb5⟩
    have HH0:Hid (w5.heap[w.heap.size]?=some (.cells #[.int .i64 0,.int .i64 0,.int .i64 0,.int .i64 0,.int .i64 0,.int .i64 0,.bool false,.slice none 0 0,.slice none 0 0] 44 (0,0))):=(hb5.block _ (Array.getElem?_eq_some_iff.1 HG0.out).1).trans HG0.out
    have HHF:Hid (w5.heap[w.heap.size+1]?=some (.cells #[.int .i64 6,.int .i64 0,.int .i64 0,.int .i64 n0,.int .i64 0,.int .i64 0,.bool false,.slice none 0 0,.slice none 0 0] 44 (0,0))):=(hb5.block _ (Array.getElem?_eq_some_iff.1 HGF.out).1).trans HGF.out
    have HB5:Hid (Below w.heap.size w w5):=HBW.out.trans (hb5.mono HBW.out.size)
    have HR5:Hid (RdT w5 w5.heap.size A1 r.length r):=(HRD.out.below hb5 (Nat.le_refl _)).more hb5.size
    clear hb5
    cases rb
    ·skip
     have HE0:Hid (w5.heap[w.heap.size]?=some (.cells #[.int .i64 0,.int .i64 0,.int .i64 0,.int .i64 0,.int .i64 0,.int .i64 0,.bool false,.slice none 0 0,.slice none 0 0] 44 (0,0))):=HH0.out
     have HEF:Hid (w5.heap[w.heap.size+1]?=some (.cells #[.int .i64 6,.int .i64 0,.int .i64 0,.int .i64 n0,.int .i64 0,.int .i64 0,.bool false,.slice none 0 0,.slice none 0 0] 44 (0,0))):=HHF.out
     have HBE:Hid (Below w.heap.size w w5):=HB5.out
     have HFN:Hid (frameO bs=none):=by show frameO bs=none;rw [HFO.out,HK.out.run];exact okO_no hrb.out
     have x0:=cell_of_row _ _ 0 _ _ _ HEF.out
     have x1:=cell_of_row _ _ 1 _ _ _ HEF.out
     have x2:=cell_of_row _ _ 2 _ _ _ HEF.out
     have x3:=cell_of_row _ _ 3 _ _ _ HEF.out
     have x4:=cell_of_row _ _ 4 _ _ _ HEF.out
     have x5:=cell_of_row _ _ 5 _ _ _ HEF.out
     have x6:=cell_of_row _ _ 6 _ _ _ HEF.out
     have x7:=cell_of_row _ _ 7 _ _ _ HEF.out
     have x8:=cell_of_row _ _ 8 _ _ _ HEF.out
     have y0:=cell_of_row _ _ 0 _ _ _ HE0.out
     have z0:=frozen_of_row _ _ 0 _ _ HE0.out
     have y1:=cell_of_row _ _ 1 _ _ _ HE0.out
     have z1:=frozen_of_row _ _ 1 _ _ HE0.out
     have y2:=cell_of_row _ _ 2 _ _ _ HE0.out
     have z2:=frozen_of_row _ _ 2 _ _ HE0.out
     have y3:=cell_of_row _ _ 3 _ _ _ HE0.out
     have z3:=frozen_of_row _ _ 3 _ _ HE0.out
     have y4:=cell_of_row _ _ 4 _ _ _ HE0.out
     have z4:=frozen_of_row _ _ 4 _ _ HE0.out
     have y5:=cell_of_row _ _ 5 _ _ _ HE0.out
     have z5:=frozen_of_row _ _ 5 _ _ HE0.out
     have y6:=cell_of_row _ _ 6 _ _ _ HE0.out
     have z6:=frozen_of_row _ _ 6 _ _ HE0.out
     have y7:=cell_of_row _ _ 7 _ _ _ HE0.out
     have z7:=frozen_of_row _ _ 7 _ _ HE0.out
     have y8:=cell_of_row _ _ 8 _ _ _ HE0.out
     have z8:=frozen_of_row _ _ 8 _ _ HE0.out
     skip
     go_wp2_with fail
     refine bodyPost_ret (results_row3 rfl _ _ w.heap.size #[.int .i64 6,.int .i64 0,.int .i64 0,.int .i64 n0,.int .i64 0,.int .i64 0,.bool false,.slice none 0 0,.slice none 0 0] rfl (run_loadVar_row _ _ 44 44 _ (0,0) _ (put9_heap (.int .i64 6) (.int .i64 0) (.int .i64 0) (.int .i64 n0) (.int .i64 0) (.int .i64 0) (.bool false) (.slice none 0 0) (.slice none 0 0) HE0.out) Tryd.underlying44 rfl (by kernel_rfl))) rfl ?_
     exact ⟨HBE.out.trans (grown_below (put9_grown _ _ _ _ _ _ _ _ _ _ _) HBE.out.size (Nat.le_refl _)),fun _=>⟨(⟨6,0,0,n0,0,0,false,[],[]⟩:Fr),none,0,0,none,0,0,2,by decide,rfl⟩,fun f r h=>by rw [HFN.out] at h;cases h⟩
    ·have HE0:=HH0
     have HEF:=HHF
     have x0:=cell_of_row _ _ 0 _ _ _ HEF.out
     have x1:=cell_of_row _ _ 1 _ _ _ HEF.out
     have x2:=cell_of_row _ _ 2 _ _ _ HEF.out
     have x3:=cell_of_row _ _ 3 _ _ _ HEF.out
     have x4:=cell_of_row _ _ 4 _ _ _ HEF.out
     have x5:=cell_of_row _ _ 5 _ _ _ HEF.out
     have x6:=cell_of_row _ _ 6 _ _ _ HEF.out
     have x7:=cell_of_row _ _ 7 _ _ _ HEF.out
     have x8:=cell_of_row _ _ 8 _ _ _ HEF.out
     have y0:=cell_of_row _ _ 0 _ _ _ HE0.out
     have z0:=frozen_of_row _ _ 0 _ _ HE0.out
     have y1:=cell_of_row _ _ 1 _ _ _ HE0.out
     have z1:=frozen_of_row _ _ 1 _ _ HE0.out
     have y2:=cell_of_row _ _ 2 _ _ _ HE0.out
     have z2:=frozen_of_row _ _ 2 _ _ HE0.out
     have y3:=cell_of_row _ _ 3 _ _ _ HE0.out
     have z3:=frozen_of_row _ _ 3 _ _ HE0.out
     have y4:=cell_of_row _ _ 4 _ _ _ HE0.out
     have z4:=frozen_of_row _ _ 4 _ _ HE0.out
     have y5:=cell_of_row _ _ 5 _ _ _ HE0.out
     have z5:=frozen_of_row _ _ 5 _ _ HE0.out
     have y6:=cell_of_row _ _ 6 _ _ _ HE0.out
     have z6:=frozen_of_row _ _ 6 _ _ HE0.out
     have y7:=cell_of_row _ _ 7 _ _ _ HE0.out
     have z7:=frozen_of_row _ _ 7 _ _ HE0.out
     have y8:=cell_of_row _ _ 8 _ _ _ HE0.out
     have z8:=frozen_of_row _ _ 8 _ _ HE0.out
     have HFS:Hid (frameO bs=some ((⟨6,0,0,n0,0,0,false,[],[]⟩:Fr),r)):=by show frameO bs=_;rw [HFO.out,HK.out.run];exact okO_yes hrb.out
     go_wp2_with fail
     refine bodyPost_ret (results_row3 rfl _ _ w.heap.size #[.int .i64 6,.int .i64 0,.int .i64 0,.int .i64 n0,.int .i64 0,.int .i64 0,.bool false,.slice none 0 0,.slice none 0 0] rfl (run_loadVar_row _ _ 44 44 _ (0,0) _ (put9_heap (.int .i64 6) (.int .i64 0) (.int .i64 0) (.int .i64 n0) (.int .i64 0) (.int .i64 0) (.bool false) (.slice none 0 0) (.slice none 0 0) HE0.out) Tryd.underlying44 rfl (by kernel_rfl))) rfl ?_
     have hgr:=put9_grown w5 w.heap.size (.int .i64 6) (.int .i64 0) (.int .i64 0) (.int .i64 n0) (.int .i64 0) (.int .i64 0) (.bool false) (.slice none 0 0) (.slice none 0 0)
     refine ⟨HB5.out.trans (grown_below hgr HB5.out.size (Nat.le_refl _)),fun h=>(by rw [HFS.out] at h;cases h),fun f r' h=>?_⟩
     rw [HFS.out] at h
     simp only [Option.some.injEq,Prod.mk.injEq] at h
     obtain ⟨rfl,rfl⟩:=h
     have hkeep:∀ k,some w.heap.size=some k→∃ cur fr e,w5.heap[k]?=some (.cells cur e fr)∧e≠5:=fun k hk=>by cases hk;exact ⟨_,_,_,HE0.out,by decide⟩
     exact ⟨none,0,0,none,0,0,A1,c1,by rw [hLR.out];rfl,rfl,rfl,by omega,by omega,own_nil _ _ _ _,own_nil _ _ _ _,HK.out.cap,(HR5.out.keep hgr hkeep).more hgr.size⟩
theorem rread_8 (bs:List Nat) (B:Nat) (A:Option Addr) (cap:Nat) (w:World) (hx:Rd w B A bs.length (bv bs)) (hB:B≤w.heap.size) (hb:∀ c ∈ bs,c<256) (hn:bs.length≤cap) (hm:bs.length≤1000000) (W:Nat) (hd:dec bs=some (8,W)) :
  Calls Tryd.prog 59 #[.slice A bs.length cap] w (ReadRP bs w):=by
 have HT0:Hid (∀ W',Below w.heap.size w W'→Calls Tryd.prog 79 #[.slice A bs.length cap] W' fun e w'=>TakeP bs W' e w'):=fun W' h=>rtake_any bs B A cap W' (hx.below h hB) (Nat.le_trans hB h.size) hb hn (by omega)
 have HLD:Hid ((bs.drop W).length=bs.length - W):=by show _=_;rw [List.length_drop]
 have HBD:Hid (∀ c ∈ bs.drop W,c<256):=fun c hc=>hb c (List.mem_of_mem_drop hc)
 have HLM:Hid ((bs.drop W).length≤1000000):=by show _≤_;rw [List.length_drop];omega
 obtain ⟨ds,hds⟩:∃ ds,bs.drop W=ds:=⟨_,rfl⟩
 have HFO:=Lib.hid (frameO_8 hd hds)
 rw [hds] at HLD HBD HLM
 have hds:=Lib.hid hds
 have hd:=Lib.hid hd
 have hix:∀ w,(Instr.index 102 (.agg #[.int .i64 0,.int .i64 0,.int .i64 0,.int .i64 3,.int .i64 4,.int .i64 2,.int .i64 1,.int .i64 2,.int .i64 2,.int .i64 0,.int .i64 1,.int .i64 1,.int .i64 1]) (.int .i64 8)).run Tryd.prog w=.ok (.int .i64 2) w:=fun _=>by kernel_rfl
 clear hx hB hb hn
 go_enter Tryd.func59,Tryd.ntmps59
 go_wp2_with fail
 refine (HT0.out _ (((Below.refl _ _).alloc (Nat.le_refl _) _).alloc (by simp) _)).mono ?_
 rintro e w1 (⟨h1,_⟩ | ⟨v,V,v',h1,rfl,h3,h2⟩)
 ·rw [hd.out] at h1;cases h1
 ·rw [hd.out] at h1
  cases h1
  rw [← HLD.out,hds.out] at h3
  obtain ⟨A',c',rfl,g1,_,_,_⟩:=own_form h3
  rw [show ((8:Nat):Int)=8 from rfl]
  have hz:((w.alloc (.cells #[.int .i64 0,.int .i64 0,.int .i64 0,.int .i64 0,.int .i64 0,.int .i64 0,.bool false,.slice none 0 0,.slice none 0 0] 44)).alloc (.cells #[.int .i64 0,.int .i64 0,.int .i64 0,.int .i64 0,.int .i64 0,.int .i64 0,.bool false,.slice none 0 0,.slice none 0 0] 44)).heap.size=w.heap.size+1+1:=by simp
  rw [hz] at h2
  have hb0:w1.heap[w.heap.size]?=some (.cells #[.int .i64 0,.int .i64 0,.int .i64 0,.int .i64 0,.int .i64 0,.int .i64 0,.bool false,.slice none 0 0,.slice none 0 0] 44 (0,0)):=by
   rw [h2.block w.heap.size (by omega),heap_alloc_old _ _ (by simp)];exact heap_alloc_new _ _
  have hbf:w1.heap[w.heap.size+1]?=some (.cells #[.int .i64 0,.int .i64 0,.int .i64 0,.int .i64 0,.int .i64 0,.int .i64 0,.bool false,.slice none 0 0,.slice none 0 0] 44 (0,0)):=by
   rw [h2.block (w.heap.size+1) (by omega)]
   have:=heap_alloc_new (w.alloc (.cells #[.int .i64 0,.int .i64 0,.int .i64 0,.int .i64 0,.int .i64 0,.int .i64 0,.bool false,.slice none 0 0,.slice none 0 0] 44)) (.cells #[.int .i64 0,.int .i64 0,.int .i64 0,.int .i64 0,.int .i64 0,.int .i64 0,.bool false,.slice none 0 0,.slice none 0 0] 44)
   simpa using this
  have hs1:Hid (w.heap.size+1<w1.heap.size):=by have:=h2.size;rw [hz] at this;show _<_;omega
  have HB1:Hid (Below w.heap.size w w1):=(((Below.refl _ _).alloc (Nat.le_refl _) _).alloc (by simp) _).trans (h2.mono (by omega))
  have c0:=cell_of_row _ _ 0 _ _ _ hbf
  have f0:=frozen_of_row _ _ 0 _ _ hbf
  have HS0:Hid (RdLp w ((w1.setCell ⟨w.heap.size+1,0,none⟩ (.int .i64 8)).alloc (.cells #[.int .i64 0,.int .i64 0,.int .i64 0,.int .i64 0] 103)) 1 ds 0 [] ds A' c' w1.heap.size 8):=by
   have hsz:(w1.setCell ⟨w.heap.size+1,0,none⟩ (.int .i64 8)).heap.size=w1.heap.size:=by simp [World.setCell]
   have hbs:Below w1.heap.size (w1.setCell ⟨w.heap.size+1,0,none⟩ (.int .i64 8)) ((w1.setCell ⟨w.heap.size+1,0,none⟩ (.int .i64 8)).alloc (.cells #[.int .i64 0,.int .i64 0,.int .i64 0,.int .i64 0] 103)):=(Below.refl _ _).alloc (by rw [hsz];exact Nat.le_refl _) _
   refine ⟨rfl,?_,g1,?_,?_,?_,?_⟩
   ·exact own_base ((own_put9 h3 (grown_set (o:=0) (.int .i64 8)) hbf (by decide)).alloc _) (by rw [hz];omega)
   ·rw [hbs.block _ (by have:=hs1.out;omega),heap_setCell_other _ _ _ _ (by show w.heap.size≠w.heap.size+1;omega)];exact hb0
   ·rw [hbs.block _ hs1.out];exact heap_setCell_same _ _ _ _ _ _ hbf
   ·have:=heap_alloc_new (w1.setCell ⟨w.heap.size+1,0,none⟩ (.int .i64 8)) (.cells #[.int .i64 0,.int .i64 0,.int .i64 0,.int .i64 0] 103)
    rw [hsz] at this
    exact this
   ·exact (HB1.out.trans (grown_below (grown_set _) HB1.out.size (by omega))).trans (hbs.mono (by have:=hs1.out;omega))
  clear h2 h3 g1 hz hb0 hbf HT0
  go_wp2_with fail
  obtain ⟨gl,hgl⟩:∃ x,Hid (w1.heap.size=x):=⟨_,rfl⟩
  rw [hgl.out] at HS0 hs1
  rw [hgl.out]
  go_loopw [7,11] (fun rest i wr=>∃ (j:Nat) (ns:List Int) (r:List Nat) (A1:Option Addr) (c1:Nat),j≤2∧rest=.slice A1 r.length c1∧i=.int .i64 (j:Int)∧Hid (RdLp w wr 1 ds j ns r A1 c1 gl 8)) (fun _ i _=>2 - (intOf i).toNat)
  case atStart=>exact ⟨0,[],ds,A',c',by omega,rfl,rfl,HS0⟩
  case round =>
   obtain ⟨j,ns,r,A1,c1,hj,rfl,rfl,HK⟩:=hrel
   obtain ⟨nl,nsub,nlen⟩:=numsO_in j _ HK.out.run
   simp only at nl nsub nlen
   have HBR:Hid (∀ c ∈ r,c<256):=fun c hc=>HBD.out c (nsub c hc)
   have HLR:Hid (r.length≤1000000):=Nat.le_trans nlen HLM.out
   have HT:=Lib.hid (rtake_any r wr.heap.size A1 c1 wr (RdT.of_own HK.out.own).1 (Nat.le_refl _) HBR.out HK.out.cap (by have:=HLR.out;omega))
   clear nsub nlen HS0
   have hjc:j=0∨j=1∨j=2:=by omega
   clear hj
   rcases hjc with rfl | rfl | rfl
   ·skip
    obtain rfl:ns=[]:=List.eq_nil_of_length_eq_zero nl
    clear nl
    rw [show ((0:Nat):Int)=0 from rfl]
    have hlc:wr.heap[gl]?=some (.cells #[.int .i64 0,.int .i64 0,.int .i64 0,.int .i64 0] 103 (0,0)):=HK.out.hl
    obtain ⟨L,hL⟩:∃ L,Hid (r.length=L):=⟨_,rfl⟩
    rw [hL.out] at HT ⊢
    go_wp2_with fail
    refine HT.out.mono ?_
    rintro e w2 (⟨h1,rfl,h2⟩ | ⟨v,V,v',h1,rfl,h3,h2⟩)
    ·skip
     have HE0:Hid (w2.heap[w.heap.size]?=some (.cells #[.int .i64 0,.int .i64 0,.int .i64 0,.int .i64 0,.int .i64 0,.int .i64 0,.bool false,.slice none 0 0,.slice none 0 0] 44 (0,0))):=(h2.block _ (Array.getElem?_eq_some_iff.1 HK.out.h0).1).trans HK.out.h0
     have HEF:Hid (w2.heap[w.heap.size+1]?=some (.cells #[.int .i64 8,.int .i64 0,.int .i64 0,.int .i64 0,.int .i64 0,.int .i64 0,.bool false,.slice none 0 0,.slice none 0 0] 44 (0,0))):=(h2.block _ (Array.getElem?_eq_some_iff.1 HK.out.hf).1).trans HK.out.hf
     have HBE:Hid (Below w.heap.size w w2):=HK.out.bel.trans (h2.mono HK.out.bel.size)
     have HFN:Hid (frameO bs=none):=by show frameO bs=none;rw [HFO.out,numsO_no (show 0<2 by omega) (numsO_stop HK.out.run h1)]
     have x0:=cell_of_row _ _ 0 _ _ _ HEF.out
     have x1:=cell_of_row _ _ 1 _ _ _ HEF.out
     have x2:=cell_of_row _ _ 2 _ _ _ HEF.out
     have x3:=cell_of_row _ _ 3 _ _ _ HEF.out
     have x4:=cell_of_row _ _ 4 _ _ _ HEF.out
     have x5:=cell_of_row _ _ 5 _ _ _ HEF.out
     have x6:=cell_of_row _ _ 6 _ _ _ HEF.out
     have x7:=cell_of_row _ _ 7 _ _ _ HEF.out
     have x8:=cell_of_row _ _ 8 _ _ _ HEF.out
     have y0:=cell_of_row _ _ 0 _ _ _ HE0.out
     have z0:=frozen_of_row _ _ 0 _ _ HE0.out
     have y1:=cell_of_row _ _ 1 _ _ _ HE0.out
     have z1:=frozen_of_row _ _ 1 _ _ HE0.out
     have y2:=cell_of_row _ _ 2 _ _ _ HE0.out
     have z2:=frozen_of_row _ _ 2 _ _ HE0.out
     have y3:=cell_of_row _ _ 3 _ _ _ HE0.out
     have z3:=frozen_of_row _ _ 3 _ _ HE0.out
     have y4:=cell_of_row _ _ 4 _ _ _ HE0.out
     have z4:=frozen_of_row _ _ 4 _ _ HE0.out
     have y5:=cell_of_row _ _ 5 _ _ _ HE0.out
     have z5:=frozen_of_row _ _ 5 _ _ HE0.out
     have y6:=cell_of_row _ _ 6 _ _ _ HE0.out
     have z6:=frozen_of_row _ _ 6 _ _ HE0.out
     have y7:=cell_of_row _ _ 7 _ _ _ HE0.out
     have z7:=frozen_of_row _ _ 7 _ _ HE0.out
     have y8:=cell_of_row _ _ 8 _ _ _ HE0.out
     have z8:=frozen_of_row _ _ 8 _ _ HE0.out
     clear h1 h2 hlc
     go_wp2_with fail
     refine bodyPost_ret (results_row3 rfl _ _ w.heap.size #[.int .i64 8,.int .i64 0,.int .i64 0,.int .i64 0,.int .i64 0,.int .i64 0,.bool false,.slice none 0 0,.slice none 0 0] rfl (run_loadVar_row _ _ 44 44 _ (0,0) _ (put9_heap (.int .i64 8) (.int .i64 0) (.int .i64 0) (.int .i64 0) (.int .i64 0) (.int .i64 0) (.bool false) (.slice none 0 0) (.slice none 0 0) HE0.out) Tryd.underlying44 rfl (by kernel_rfl))) rfl ?_
     exact ⟨HBE.out.trans (grown_below (put9_grown _ _ _ _ _ _ _ _ _ _ _) HBE.out.size (Nat.le_refl _)),fun _=>⟨⟨8,0,0,0,0,0,false,[],[]⟩,none,0,0,none,0,0,3,by decide,rfl⟩,fun f r h=>by rw [HFN.out] at h;cases h⟩
    ·have hvM:v≤4611686018427387903:=dec_lt HBR.out h1
     rw [show r.length - V=(r.drop V).length by rw [List.length_drop]] at h3
     have HG0:Hid (w2.heap[w.heap.size]?=some (.cells #[.int .i64 0,.int .i64 0,.int .i64 0,.int .i64 0,.int .i64 0,.int .i64 0,.bool false,.slice none 0 0,.slice none 0 0] 44 (0,0))):=(h2.block _ (Array.getElem?_eq_some_iff.1 HK.out.h0).1).trans HK.out.h0
     have HGF:Hid (w2.heap[w.heap.size+1]?=some (.cells #[.int .i64 8,.int .i64 0,.int .i64 0,.int .i64 0,.int .i64 0,.int .i64 0,.bool false,.slice none 0 0,.slice none 0 0] 44 (0,0))):=(h2.block _ (Array.getElem?_eq_some_iff.1 HK.out.hf).1).trans HK.out.hf
     have HEL:Hid (w2.heap[gl]?=some (.cells #[.int .i64 0,.int .i64 0,.int .i64 0,.int .i64 0] 103 (0,0))):=(h2.block _ (Array.getElem?_eq_some_iff.1 hlc).1).trans hlc
     have HB2:Hid (Below w.heap.size w w2):=HK.out.bel.trans (h2.mono HK.out.bel.size)
     obtain ⟨A3,c3,rfl,g1,_,_,_⟩:=own_form h3
     have HRUN:Hid (numsO 1 ds (0+1)=if 0=1∧1<v then none else some ([] ++ [(v:Int)],r.drop V)):=numsO_next HK.out.run h1
     obtain ⟨r3,hr3⟩:∃ x,Hid (r.drop V=x):=⟨_,rfl⟩
     rw [hr3.out] at h3 g1 HRUN ⊢
     have HC3:=Lib.hid g1
     have HO3:Hid (w2.ownsRow w.heap.size 5 1 (.slice A3 r3.length c3) r3.length (bv r3)):=own_base h3 HK.out.bel.size
     have k0:=cell_of_row _ _ 0 _ _ _ HEL.out
     have fz:=frozen_of_row _ _ 0 _ _ HEL.out
     clear h1 h2 h3 g1 hlc
     have HN:Hid (RdLp w (w2.setCell ⟨gl,0,none⟩ (.int .i64 (v:Int))) 1 ds (0+1) ([] ++ [(v:Int)]) r3 A3 c3 gl 8):=by
      refine ⟨by rw [HRUN.out,if_neg (by omega)],own_put9 HO3.out (grown_set (o:=0) (.int .i64 (v:Int))) HEL.out (by decide),HC3.out,?_,?_,?_,?_⟩
      ·rw [heap_setCell_other _ _ _ _ (by show w.heap.size≠gl;have:=hs1.out;omega)];exact HG0.out
      ·rw [heap_setCell_other _ _ _ _ (by show w.heap.size+1≠gl;have:=hs1.out;omega)];exact HGF.out
      ·exact heap_setCell_same _ _ _ _ _ _ HEL.out
      ·exact HB2.out.trans (grown_below (grown_set _) HB2.out.size (by have:=hs1.out;omega))
     go_wp2_with fail
     go_roundw
     case rel=>exact ⟨0+1,_,r3,A3,c3,by omega,rfl,by go_num,HN⟩
     case measure=>simp [intOf]
   ·skip
    obtain ⟨n0,rfl⟩:=len1 nl
    clear nl
    rw [show ((1:Nat):Int)=1 from rfl]
    have hlc:wr.heap[gl]?=some (.cells #[.int .i64 n0,.int .i64 0,.int .i64 0,.int .i64 0] 103 (0,0)):=HK.out.hl
    obtain ⟨L,hL⟩:∃ L,Hid (r.length=L):=⟨_,rfl⟩
    rw [hL.out] at HT ⊢
    go_wp2_with fail
    refine HT.out.mono ?_
    rintro e w2 (⟨h1,rfl,h2⟩ | ⟨v,V,v',h1,rfl,h3,h2⟩)
    ·skip
     have HE0:Hid (w2.heap[w.heap.size]?=some (.cells #[.int .i64 0,.int .i64 0,.int .i64 0,.int .i64 0,.int .i64 0,.int .i64 0,.bool false,.slice none 0 0,.slice none 0 0] 44 (0,0))):=(h2.block _ (Array.getElem?_eq_some_iff.1 HK.out.h0).1).trans HK.out.h0
     have HEF:Hid (w2.heap[w.heap.size+1]?=some (.cells #[.int .i64 8,.int .i64 0,.int .i64 0,.int .i64 0,.int .i64 0,.int .i64 0,.bool false,.slice none 0 0,.slice none 0 0] 44 (0,0))):=(h2.block _ (Array.getElem?_eq_some_iff.1 HK.out.hf).1).trans HK.out.hf
     have HBE:Hid (Below w.heap.size w w2):=HK.out.bel.trans (h2.mono HK.out.bel.size)
     have HFN:Hid (frameO bs=none):=by show frameO bs=none;rw [HFO.out,numsO_no (show 1<2 by omega) (numsO_stop HK.out.run h1)]
     have x0:=cell_of_row _ _ 0 _ _ _ HEF.out
     have x1:=cell_of_row _ _ 1 _ _ _ HEF.out
     have x2:=cell_of_row _ _ 2 _ _ _ HEF.out
     have x3:=cell_of_row _ _ 3 _ _ _ HEF.out
     have x4:=cell_of_row _ _ 4 _ _ _ HEF.out
     have x5:=cell_of_row _ _ 5 _ _ _ HEF.out
     have x6:=cell_of_row _ _ 6 _ _ _ HEF.out
     have x7:=cell_of_row _ _ 7 _ _ _ HEF.out
     have x8:=cell_of_row _ _ 8 _ _ _ HEF.out
     have y0:=cell_of_row _ _ 0 _ _ _ HE0.out
     have z0:=frozen_of_row _ _ 0 _ _ HE0.out
     have y1:=cell_of_row _ _ 1 _ _ _ HE0.out
     have z1:=frozen_of_row _ _ 1 _ _ HE0.out
     have y2:=cell_of_row _ _ 2 _ _ _ HE0.out
     have z2:=frozen_of_row _ _ 2 _ _ HE0.out
     have y3:=cell_of_row _ _ 3 _ _ _ HE0.out
     have z3:=frozen_of_row _ _ 3 _ _ HE0.out
     have y4:=cell_of_row _ _ 4 _ _ _ HE0.out
     have z4:=frozen_of_row _ _ 4 _ _ HE0.out
     have y5:=cell_of_row _ _ 5 _ _ _ HE0.out
     have z5:=frozen_of_row _ _ 5 _ _ HE0.out
     have y6:=cell_of_row _ _ 6 _ _ _ HE0.out
     have z6:=frozen_of_row _ _ 6 _ _ HE0.out
     have y7:=cell_of_row _ _ 7 _ _ _ HE0.out
     have z7:=frozen_of_row _ _ 7 _ _ HE0.out
     have y8:=cell_of_row _ _ 8 _ _ _ HE0.out
     have z8:=frozen_of_row _ _ 8 _ _ HE0.out
     clear h1 h2 hlc
     go_wp2_with fail
     refine bodyPost_ret (results_row3 rfl _ _ w.heap.size #[.int .i64 8,.int .i64 0,.int .i64 0,.int .i64 0,.int .i64 0,.int .i64 0,.bool false,.slice none 0 0,.slice none 0 0] rfl (run_loadVar_row _ _ 44 44 _ (0,0) _ (put9_heap (.int .i64 8) (.int .i64 0) (.int .i64 0) (.int .i64 0) (.int .i64 0) (.int .i64 0) (.bool false) (.slice none 0 0) (.slice none 0 0) HE0.out) Tryd.underlying44 rfl (by kernel_rfl))) rfl ?_
     exact ⟨HBE.out.trans (grown_below (put9_grown _ _ _ _ _ _ _ _ _ _ _) HBE.out.size (Nat.le_refl _)),fun _=>⟨⟨8,0,0,0,0,0,false,[],[]⟩,none,0,0,none,0,0,3,by decide,rfl⟩,fun f r h=>by rw [HFN.out] at h;cases h⟩
    ·have hvM:v≤4611686018427387903:=dec_lt HBR.out h1
     rw [show r.length - V=(r.drop V).length by rw [List.length_drop]] at h3
     have HG0:Hid (w2.heap[w.heap.size]?=some (.cells #[.int .i64 0,.int .i64 0,.int .i64 0,.int .i64 0,.int .i64 0,.int .i64 0,.bool false,.slice none 0 0,.slice none 0 0] 44 (0,0))):=(h2.block _ (Array.getElem?_eq_some_iff.1 HK.out.h0).1).trans HK.out.h0
     have HGF:Hid (w2.heap[w.heap.size+1]?=some (.cells #[.int .i64 8,.int .i64 0,.int .i64 0,.int .i64 0,.int .i64 0,.int .i64 0,.bool false,.slice none 0 0,.slice none 0 0] 44 (0,0))):=(h2.block _ (Array.getElem?_eq_some_iff.1 HK.out.hf).1).trans HK.out.hf
     have HEL:Hid (w2.heap[gl]?=some (.cells #[.int .i64 n0,.int .i64 0,.int .i64 0,.int .i64 0] 103 (0,0))):=(h2.block _ (Array.getElem?_eq_some_iff.1 hlc).1).trans hlc
     have HB2:Hid (Below w.heap.size w w2):=HK.out.bel.trans (h2.mono HK.out.bel.size)
     obtain ⟨A3,c3,rfl,g1,_,_,_⟩:=own_form h3
     have HRUN:Hid (numsO 1 ds (1+1)=if 1=1∧1<v then none else some ([n0] ++ [(v:Int)],r.drop V)):=numsO_next HK.out.run h1
     obtain ⟨r3,hr3⟩:∃ x,Hid (r.drop V=x):=⟨_,rfl⟩
     rw [hr3.out] at h3 g1 HRUN ⊢
     have HC3:=Lib.hid g1
     have HO3:Hid (w2.ownsRow w.heap.size 5 1 (.slice A3 r3.length c3) r3.length (bv r3)):=own_base h3 HK.out.bel.size
     have k1:=cell_of_row _ _ 1 _ _ _ HEL.out
     have fz:=frozen_of_row _ _ 1 _ _ HEL.out
     clear h1 h2 h3 g1 hlc
     by_cases hv1:1<v
     ·skip
      have hvi:(1:Int)<(v:Int):=by omega
      have HE0:Hid ((w2.setCell ⟨gl,1,none⟩ (.int .i64 (v:Int))).heap[w.heap.size]?=some (.cells #[.int .i64 0,.int .i64 0,.int .i64 0,.int .i64 0,.int .i64 0,.int .i64 0,.bool false,.slice none 0 0,.slice none 0 0] 44 (0,0))):=by show (w2.setCell ⟨gl,1,none⟩ (.int .i64 (v:Int))).heap[w.heap.size]?=_;rw [heap_setCell_other _ _ _ _ (by show w.heap.size≠gl;have:=hs1.out;omega)];exact HG0.out
      have HEF:Hid ((w2.setCell ⟨gl,1,none⟩ (.int .i64 (v:Int))).heap[w.heap.size+1]?=some (.cells #[.int .i64 8,.int .i64 0,.int .i64 0,.int .i64 0,.int .i64 0,.int .i64 0,.bool false,.slice none 0 0,.slice none 0 0] 44 (0,0))):=by show (w2.setCell ⟨gl,1,none⟩ (.int .i64 (v:Int))).heap[w.heap.size+1]?=_;rw [heap_setCell_other _ _ _ _ (by show w.heap.size+1≠gl;have:=hs1.out;omega)];exact HGF.out
      have HBE:Hid (Below w.heap.size w (w2.setCell ⟨gl,1,none⟩ (.int .i64 (v:Int)))):=HB2.out.trans (grown_below (grown_set _) HB2.out.size (by have:=hs1.out;omega))
      have HFN:Hid (frameO bs=none):=by show frameO bs=none;rw [HFO.out,numsO_no (show 1<2 by omega) (by rw [HRUN.out,if_pos ⟨rfl,by omega⟩])]
      have x0:=cell_of_row _ _ 0 _ _ _ HEF.out
      have x1:=cell_of_row _ _ 1 _ _ _ HEF.out
      have x2:=cell_of_row _ _ 2 _ _ _ HEF.out
      have x3:=cell_of_row _ _ 3 _ _ _ HEF.out
      have x4:=cell_of_row _ _ 4 _ _ _ HEF.out
      have x5:=cell_of_row _ _ 5 _ _ _ HEF.out
      have x6:=cell_of_row _ _ 6 _ _ _ HEF.out
      have x7:=cell_of_row _ _ 7 _ _ _ HEF.out
      have x8:=cell_of_row _ _ 8 _ _ _ HEF.out
      have y0:=cell_of_row _ _ 0 _ _ _ HE0.out
      have z0:=frozen_of_row _ _ 0 _ _ HE0.out
      have y1:=cell_of_row _ _ 1 _ _ _ HE0.out
      have z1:=frozen_of_row _ _ 1 _ _ HE0.out
      have y2:=cell_of_row _ _ 2 _ _ _ HE0.out
      have z2:=frozen_of_row _ _ 2 _ _ HE0.out
      have y3:=cell_of_row _ _ 3 _ _ _ HE0.out
      have z3:=frozen_of_row _ _ 3 _ _ HE0.out
      have y4:=cell_of_row _ _ 4 _ _ _ HE0.out
      have z4:=frozen_of_row _ _ 4 _ _ HE0.out
      have y5:=cell_of_row _ _ 5 _ _ _ HE0.out
      have z5:=frozen_of_row _ _ 5 _ _ HE0.out
      have y6:=cell_of_row _ _ 6 _ _ _ HE0.out
      have z6:=frozen_of_row _ _ 6 _ _ HE0.out
      have y7:=cell_of_row _ _ 7 _ _ _ HE0.out
      have z7:=frozen_of_row _ _ 7 _ _ HE0.out
      have y8:=cell_of_row _ _ 8 _ _ _ HE0.out
      have z8:=frozen_of_row _ _ 8 _ _ HE0.out
      clear hv1
      go_wp2_with fail
      refine bodyPost_ret (results_row3 rfl _ _ w.heap.size #[.int .i64 8,.int .i64 0,.int .i64 0,.int .i64 0,.int .i64 0,.int .i64 0,.bool false,.slice none 0 0,.slice none 0 0] rfl (run_loadVar_row _ _ 44 44 _ (0,0) _ (put9_heap (.int .i64 8) (.int .i64 0) (.int .i64 0) (.int .i64 0) (.int .i64 0) (.int .i64 0) (.bool false) (.slice none 0 0) (.slice none 0 0) HE0.out) Tryd.underlying44 rfl (by kernel_rfl))) rfl ?_
      exact ⟨HBE.out.trans (grown_below (put9_grown _ _ _ _ _ _ _ _ _ _ _) HBE.out.size (Nat.le_refl _)),fun _=>⟨⟨8,0,0,0,0,0,false,[],[]⟩,none,0,0,none,0,0,2,by decide,rfl⟩,fun f r h=>by rw [HFN.out] at h;cases h⟩
     ·have hvi:¬ (1:Int)<(v:Int):=by omega
      have HN:Hid (RdLp w (w2.setCell ⟨gl,1,none⟩ (.int .i64 (v:Int))) 1 ds (1+1) ([n0] ++ [(v:Int)]) r3 A3 c3 gl 8):=by
       refine ⟨by rw [HRUN.out,if_neg (by omega)],own_put9 HO3.out (grown_set (o:=1) (.int .i64 (v:Int))) HEL.out (by decide),HC3.out,?_,?_,?_,?_⟩
       ·rw [heap_setCell_other _ _ _ _ (by show w.heap.size≠gl;have:=hs1.out;omega)];exact HG0.out
       ·rw [heap_setCell_other _ _ _ _ (by show w.heap.size+1≠gl;have:=hs1.out;omega)];exact HGF.out
       ·exact heap_setCell_same _ _ _ _ _ _ HEL.out
       ·exact HB2.out.trans (grown_below (grown_set _) HB2.out.size (by have:=hs1.out;omega))
      go_wp2_with fail
      go_roundw
      case rel=>exact ⟨1+1,_,r3,A3,c3,by omega,rfl,by go_num,HN⟩
      case measure=>simp [intOf]
   ·skip
    obtain ⟨n0,n1,rfl⟩:=len2 nl
    clear nl
    rw [show ((2:Nat):Int)=2 from rfl]
    have hlc:wr.heap[gl]?=some (.cells #[.int .i64 n0,.int .i64 n1,.int .i64 0,.int .i64 0] 103 (0,0)):=HK.out.hl
    have HGR:Hid (wr.grownBy ((wr.setCell ⟨w.heap.size+1,3,none⟩ (.int .i64 n0)).setCell ⟨w.heap.size+1,6,none⟩ (.bool (n1 == 1))) (some (w.heap.size+1))):=(grown_more (grown_set (o:=3) (.int .i64 n0)) 6 (.bool (n1 == 1)))
    have k0:=cell_of_row _ _ 0 _ _ _ hlc
    have k1:=cell_of_row _ _ 1 _ _ _ hlc
    have k2:=cell_of_row _ _ 2 _ _ _ hlc
    have k3:=cell_of_row _ _ 3 _ _ _ hlc
    have v3:=cell_of_row _ _ 3 _ _ _ HK.out.hf
    have u3:=frozen_of_row _ _ 3 _ _ HK.out.hf
    have v6:=cell_of_row _ _ 6 _ _ _ HK.out.hf
    have u6:=frozen_of_row _ _ 6 _ _ HK.out.hf
    have hgg:gl≠w.heap.size+1:=by have:=hs1.out;omega
    have hgg2:w.heap.size+1≠gl:=by have:=hs1.out;omega
    have x0:=cell_of_row _ _ 0 _ _ _ HK.out.hf
    have x1:=cell_of_row _ _ 1 _ _ _ HK.out.hf
    have x2:=cell_of_row _ _ 2 _ _ _ HK.out.hf
    have x3:=cell_of_row _ _ 3 _ _ _ HK.out.hf
    have x4:=cell_of_row _ _ 4 _ _ _ HK.out.hf
    have x5:=cell_of_row _ _ 5 _ _ _ HK.out.hf
    have x6:=cell_of_row _ _ 6 _ _ _ HK.out.hf
    have x7:=cell_of_row _ _ 7 _ _ _ HK.out.hf
    have x8:=cell_of_row _ _ 8 _ _ _ HK.out.hf
    clear HT
    have HG0:Hid (((wr.setCell ⟨w.heap.size+1,3,none⟩ (.int .i64 n0)).setCell ⟨w.heap.size+1,6,none⟩ (.bool (n1 == 1))).heap[w.heap.size]?=some (.cells #[.int .i64 0,.int .i64 0,.int .i64 0,.int .i64 0,.int .i64 0,.int .i64 0,.bool false,.slice none 0 0,.slice none 0 0] 44 (0,0))):=by show ((wr.setCell ⟨w.heap.size+1,3,none⟩ (.int .i64 n0)).setCell ⟨w.heap.size+1,6,none⟩ (.bool (n1 == 1))).heap[w.heap.size]?=_;rw [heap_setCell_other _ _ _ _ (by show w.heap.size≠w.heap.size+1;omega)];rw [heap_setCell_other _ _ _ _ (by show w.heap.size≠w.heap.size+1;omega)];exact HK.out.h0
    have HGF:Hid (((wr.setCell ⟨w.heap.size+1,3,none⟩ (.int .i64 n0)).setCell ⟨w.heap.size+1,6,none⟩ (.bool (n1 == 1))).heap[w.heap.size+1]?=some (.cells #[.int .i64 8,.int .i64 0,.int .i64 0,.int .i64 n0,.int .i64 0,.int .i64 0,.bool (n1 == 1),.slice none 0 0,.slice none 0 0] 44 (0,0))):=(heap_setCell_same _ _ 6 _ _ (.bool (n1 == 1)) (heap_setCell_same _ _ 3 _ _ (.int .i64 n0) HK.out.hf))
    have HBW:Hid (Below w.heap.size w ((wr.setCell ⟨w.heap.size+1,3,none⟩ (.int .i64 n0)).setCell ⟨w.heap.size+1,6,none⟩ (.bool (n1 == 1)))):=HK.out.bel.trans (grown_below HGR.out HK.out.bel.size (by omega))
    have HRD:Hid (RdT ((wr.setCell ⟨w.heap.size+1,3,none⟩ (.int .i64 n0)).setCell ⟨w.heap.size+1,6,none⟩ (.bool (n1 == 1))) ((wr.setCell ⟨w.heap.size+1,3,none⟩ (.int .i64 n0)).setCell ⟨w.heap.size+1,6,none⟩ (.bool (n1 == 1))).heap.size A1 r.length r):=RdT.of_own (own_put9 HK.out.own HGR.out HK.out.hf (by decide))
    have HRF:Hid (Calls Tryd.prog 51 #[.agg #[.int .i64 8,.int .i64 0,.int .i64 0,.int .i64 n0,.int .i64 0,.int .i64 0,.bool (n1 == 1),.slice none 0 0,.slice none 0 0]] ((wr.setCell ⟨w.heap.size+1,3,none⟩ (.int .i64 n0)).setCell ⟨w.heap.size+1,6,none⟩ (.bool (n1 == 1))) fun e w'=>e=.returned (.bool (rightB (⟨8,0,0,n0,0,0,(n1 == 1),[],[]⟩:Fr)))∧Below ((wr.setCell ⟨w.heap.size+1,3,none⟩ (.int .i64 n0)).setCell ⟨w.heap.size+1,6,none⟩ (.bool (n1 == 1))).heap.size ((wr.setCell ⟨w.heap.size+1,3,none⟩ (.int .i64 n0)).setCell ⟨w.heap.size+1,6,none⟩ (.bool (n1 == 1))) w'):=rright_any (⟨8,0,0,n0,0,0,(n1 == 1),[],[]⟩:Fr) none 0 0 none 0 0 _ ⟨rfl,Nat.le_refl _,Rd.nil _ _ _,rfl,Nat.le_refl _,Rd.nil _ _ _⟩ (fun c hc=>by cases hc)
    obtain ⟨rb,hrb⟩:∃ x,Hid (rightB (⟨8,0,0,n0,0,0,(n1 == 1),[],[]⟩:Fr)=x):=⟨_,rfl⟩
    rw [hrb.out] at HRF
    obtain ⟨LR,hLR⟩:∃ L,Hid (r.length=L):=⟨_,rfl⟩
    rw [hLR.out]
    go_wp2_with fail
    refine HRF.out.mono ?_
    rintro e w5 ⟨rfl,hb5⟩
    have HH0:Hid (w5.heap[w.heap.size]?=some (.cells #[.int .i64 0,.int .i64 0,.int .i64 0,.int .i64 0,.int .i64 0,.int .i64 0,.bool false,.slice none 0 0,.slice none 0 0] 44 (0,0))):=(hb5.block _ (Array.getElem?_eq_some_iff.1 HG0.out).1).trans HG0.out
    have HHF:Hid (w5.heap[w.heap.size+1]?=some (.cells #[.int .i64 8,.int .i64 0,.int .i64 0,.int .i64 n0,.int .i64 0,.int .i64 0,.bool (n1 == 1),.slice none 0 0,.slice none 0 0] 44 (0,0))):=(hb5.block _ (Array.getElem?_eq_some_iff.1 HGF.out).1).trans HGF.out
    have HB5:Hid (Below w.heap.size w w5):=HBW.out.trans (hb5.mono HBW.out.size)
    have HR5:Hid (RdT w5 w5.heap.size A1 r.length r):=(HRD.out.below hb5 (Nat.le_refl _)).more hb5.size
    clear hb5
    cases rb
    ·skip
     have HE0:Hid (w5.heap[w.heap.size]?=some (.cells #[.int .i64 0,.int .i64 0,.int .i64 0,.int .i64 0,.int .i64 0,.int .i64 0,.bool false,.slice none 0 0,.slice none 0 0] 44 (0,0))):=HH0.out
     have HEF:Hid (w5.heap[w.heap.size+1]?=some (.cells #[.int .i64 8,.int .i64 0,.int .i64 0,.int .i64 n0,.int .i64 0,.int .i64 0,.bool (n1 == 1),.slice none 0 0,.slice none 0 0] 44 (0,0))):=HHF.out
     have HBE:Hid (Below w.heap.size w w5):=HB5.out
     have HFN:Hid (frameO bs=none):=by show frameO bs=none;rw [HFO.out,HK.out.run];exact okO_no hrb.out
     have x0:=cell_of_row _ _ 0 _ _ _ HEF.out
     have x1:=cell_of_row _ _ 1 _ _ _ HEF.out
     have x2:=cell_of_row _ _ 2 _ _ _ HEF.out
     have x3:=cell_of_row _ _ 3 _ _ _ HEF.out
     have x4:=cell_of_row _ _ 4 _ _ _ HEF.out
     have x5:=cell_of_row _ _ 5 _ _ _ HEF.out
     have x6:=cell_of_row _ _ 6 _ _ _ HEF.out
     have x7:=cell_of_row _ _ 7 _ _ _ HEF.out
     have x8:=cell_of_row _ _ 8 _ _ _ HEF.out
     have y0:=cell_of_row _ _ 0 _ _ _ HE0.out
     have z0:=frozen_of_row _ _ 0 _ _ HE0.out
     have y1:=cell_of_row _ _ 1 _ _ _ HE0.out
     have z1:=frozen_of_row _ _ 1 _ _ HE0.out
     have y2:=cell_of_row _ _ 2 _ _ _ HE0.out
     have z2:=frozen_of_row _ _ 2 _ _ HE0.out
     have y3:=cell_of_row _ _ 3 _ _ _ HE0.out
     have z3:=frozen_of_row _ _ 3 _ _ HE0.out
     have y4:=cell_of_row _ _ 4 _ _ _ HE0.out
     have z4:=frozen_of_row _ _ 4 _ _ HE0.out
     have y5:=cell_of_row _ _ 5 _ _ _ HE0.out
     have z5:=frozen_of_row _ _ 5 _ _ HE0.out
     have y6:=cell_of_row _ _ 6 _ _ _ HE0.out
     have z6:=frozen_of_row _ _ 6 _ _ HE0.out
     have y7:=cell_of_row _ _ 7 _ _ _ HE0.out
     have z7:=frozen_of_row _ _ 7 _ _ HE0.out
     have y8:=cell_of_row _ _ 8 _ _ _ HE0.out
     have z8:=frozen_of_row _ _ 8 _ _ HE0.out
     skip
     go_wp2_with fail
     refine bodyPost_ret (results_row3 rfl _ _ w.heap.size #[.int .i64 8,.int .i64 0,.int .i64 0,.int .i64 n0,.int .i64 0,.int .i64 0,.bool (n1 == 1),.slice none 0 0,.slice none 0 0] rfl (run_loadVar_row _ _ 44 44 _ (0,0) _ (put9_heap (.int .i64 8) (.int .i64 0) (.int .i64 0) (.int .i64 n0) (.int .i64 0) (.int .i64 0) (.bool (n1 == 1)) (.slice none 0 0) (.slice none 0 0) HE0.out) Tryd.underlying44 rfl (by kernel_rfl))) rfl ?_
     exact ⟨HBE.out.trans (grown_below (put9_grown _ _ _ _ _ _ _ _ _ _ _) HBE.out.size (Nat.le_refl _)),fun _=>⟨(⟨8,0,0,n0,0,0,(n1 == 1),[],[]⟩:Fr),none,0,0,none,0,0,2,by decide,rfl⟩,fun f r h=>by rw [HFN.out] at h;cases h⟩
    ·have HE0:=HH0
     have HEF:=HHF
     have x0:=cell_of_row _ _ 0 _ _ _ HEF.out
     have x1:=cell_of_row _ _ 1 _ _ _ HEF.out
     have x2:=cell_of_row _ _ 2 _ _ _ HEF.out
     have x3:=cell_of_row _ _ 3 _ _ _ HEF.out
     have x4:=cell_of_row _ _ 4 _ _ _ HEF.out
     have x5:=cell_of_row _ _ 5 _ _ _ HEF.out
     have x6:=cell_of_row _ _ 6 _ _ _ HEF.out
     have x7:=cell_of_row _ _ 7 _ _ _ HEF.out
     have x8:=cell_of_row _ _ 8 _ _ _ HEF.out
     have y0:=cell_of_row _ _ 0 _ _ _ HE0.out
     have z0:=frozen_of_row _ _ 0 _ _ HE0.out
     have y1:=cell_of_row _ _ 1 _ _ _ HE0.out
     have z1:=frozen_of_row _ _ 1 _ _ HE0.out
     have y2:=cell_of_row _ _ 2 _ _ _ HE0.out
     have z2:=frozen_of_row _ _ 2 _ _ HE0.out
     have y3:=cell_of_row _ _ 3 _ _ _ HE0.out
     have z3:=frozen_of_row _ _ 3 _ _ HE0.out
     have y4:=cell_of_row _ _ 4 _ _ _ HE0.out
     have z4:=frozen_of_row _ _ 4 _ _ HE0.out
     have y5:=cell_of_row _ _ 5 _ _ _ HE0.out
     have z5:=frozen_of_row _ _ 5 _ _ HE0.out
     have y6:=cell_of_row _ _ 6 _ _ _ HE0.out
     have z6:=frozen_of_row _ _ 6 _ _ HE0.out
     have y7:=cell_of_row _ _ 7 _ _ _ HE0.out
     have z7:=frozen_of_row _ _ 7 _ _ HE0.out
     have y8:=cell_of_row _ _ 8 _ _ _ HE0.out
     have z8:=frozen_of_row _ _ 8 _ _ HE0.out
     have HFS:Hid (frameO bs=some ((⟨8,0,0,n0,0,0,(n1 == 1),[],[]⟩:Fr),r)):=by show frameO bs=_;rw [HFO.out,HK.out.run];exact okO_yes hrb.out
     go_wp2_with fail
     refine bodyPost_ret (results_row3 rfl _ _ w.heap.size #[.int .i64 8,.int .i64 0,.int .i64 0,.int .i64 n0,.int .i64 0,.int .i64 0,.bool (n1 == 1),.slice none 0 0,.slice none 0 0] rfl (run_loadVar_row _ _ 44 44 _ (0,0) _ (put9_heap (.int .i64 8) (.int .i64 0) (.int .i64 0) (.int .i64 n0) (.int .i64 0) (.int .i64 0) (.bool (n1 == 1)) (.slice none 0 0) (.slice none 0 0) HE0.out) Tryd.underlying44 rfl (by kernel_rfl))) rfl ?_
     have hgr:=put9_grown w5 w.heap.size (.int .i64 8) (.int .i64 0) (.int .i64 0) (.int .i64 n0) (.int .i64 0) (.int .i64 0) (.bool (n1 == 1)) (.slice none 0 0) (.slice none 0 0)
     refine ⟨HB5.out.trans (grown_below hgr HB5.out.size (Nat.le_refl _)),fun h=>(by rw [HFS.out] at h;cases h),fun f r' h=>?_⟩
     rw [HFS.out] at h
     simp only [Option.some.injEq,Prod.mk.injEq] at h
     obtain ⟨rfl,rfl⟩:=h
     have hkeep:∀ k,some w.heap.size=some k→∃ cur fr e,w5.heap[k]?=some (.cells cur e fr)∧e≠5:=fun k hk=>by cases hk;exact ⟨_,_,_,HE0.out,by decide⟩
     exact ⟨none,0,0,none,0,0,A1,c1,by rw [hLR.out];rfl,rfl,rfl,by omega,by omega,own_nil _ _ _ _,own_nil _ _ _ _,HK.out.cap,(HR5.out.keep hgr hkeep).more hgr.size⟩
end Go.Proofs.YtccljifichaieaaDoor.Rv
