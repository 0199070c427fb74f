/- Joined texts. Conditions: as each theorem lists them. -/
import Derived.Test.YtccljifichaieaaDoorJTd
import Derived.Test.YtccljifichaieaaDoorJ9b
import Derived.Deep.RegionHeld3
set_option linter.unusedSimpArgs false
set_option linter.unusedVariables false
set_option maxRecDepth 100000
set_option maxHeartbeats 8000000
namespace Go.Proofs.YtccljifichaieaaDoor.Rv
open Go Go.RowKit
theorem rdata_ok (bs:List Nat) (B:Nat) (A:Option Addr) (cap:Nat) (w:World) (hx:Rd w B A bs.length (bv bs)) (hB:B≤w.heap.size) (hb:∀ c ∈ bs,c<256) (hn:bs.length≤cap) (hm:bs.length≤140737488355328) (v W:Nat) (hd:dec bs=some (v,W)) (hv:v≤120) (hl:v≤bs.length - W) :
  Calls Tryd.prog 81 #[.slice A bs.length cap] w fun e w'=>∃ v1 A2 c2,e=.returned (.tuple #[v1,.slice A2 (bs.length - W - v) c2,.int .i64 0])∧w'.ownsRow w.heap.size 5 1 v1 v (bv ((bs.drop W).take v))∧bs.length - W - v≤c2∧RdT w' w'.heap.size A2 (bs.length - W - v) ((bs.drop W).drop v)∧Below w.heap.size w w':=by
 have HT:=Lib.hid (rtake_any bs B A cap w hx hB hb hn hm)
 have hd:=Lib.hid hd
 obtain ⟨k,hk⟩:∃ k,bs.length - W=k:=⟨_,rfl⟩
 obtain ⟨ds,hds⟩:∃ ds,bs.drop W=ds:=⟨_,rfl⟩
 have hkl:ds.length=k:=by rw [← hds,List.length_drop];exact hk
 rw [hk] at hl ⊢
 rw [hds]
 have hk:=Lib.hid hk
 have hds:=Lib.hid hds
 have hkl:=Lib.hid hkl
 obtain ⟨i0,hi,hz0,hz1,hz2⟩:=info_parts infoB
 have HI:=Lib.hid (And.intro hi (And.intro hz0 (And.intro hz1 hz2)))
 clear hi hz0 hz1 hz2
 have hv':¬ (120:Int)<(v:Int):=by omega
 have hl':¬ (k:Int)<(v:Int):=by omega
 have hl2:=Lib.hid hl
 have hv2:=Lib.hid hv
 clear hx hB hb hn hm hv
 go_enter Tryd.func81,Tryd.ntmps81
 go_wp2_with fail
 refine HT.out.mono ?_
 rintro e w2 (⟨h1,_⟩ | ⟨v1,W1,v',h1,rfl,h3,h2⟩)
 ·rw [hd.out] at h1;cases h1
 ·rw [hd.out] at h1
  cases h1
  rw [hk.out,hds.out] at h3
  obtain ⟨A',c',rfl,g1,g2,g3,g4⟩:=own_form h3
  have h2:=Lib.hid h2
  have hs2:Hid (w.heap.size≤w2.heap.size):=h2.out.size
  have hcap:=Lib.hid g1
  have HTY:=Lib.hid (own_ty h3)
  have h3:=Lib.hid h3
  have HR:Hid (Rd w2 w2.heap.size A' k (bv ds)):=by have:=g4;rwa [Nat.mul_one] at this
  clear g2 g3 g4
  have hw1:(v:Int)≤(c':Int):=by omega
  have hw2:(k:Int)≤(c':Int):=by omega
  have hw3:(v:Int)≤(k:Int):=by omega
  clear g1
  go_wp2_with fail
  have HBA:Hid (Below w2.heap.size w2 (w2.drew.alloc (.cells #[] 5))):=(Below.refl _ _).drew.alloc (Nat.le_refl _) _
  refine wp_region_held_drew (S:=fun W'=>Below w2.heap.size w2 W') (by kernel_rfl) ?_ (fun hHeld=>?_)
  ·exact (Below.refl _ _).drew
  refine wpAnyH_take (i:=1) (v:=?_) rfl (by kernel_rfl) (by kernel_rfl) (by kernel_rfl) (fun _ _ _ h=>h) (Or.inl ⟨by rfl,?_⟩) (by assumption) ?_
  rotate_left
  ·intro w hSw;(try dsimp only at hSw);go_simp;try with_reducible rfl
  go_simp
  refine wpAnyH_take (i:=2) (v:=?_) rfl (by kernel_rfl) (by kernel_rfl) (by kernel_rfl) (fun _ _ _ h=>h) (Or.inl ⟨by rfl,?_⟩) (by assumption) ?_
  rotate_left
  ·intro w hSw;(try dsimp only at hSw);go_simp;try with_reducible rfl
  go_simp
  refine wpAnyH_take (i:=3) (v:=?_) rfl (by kernel_rfl) (by kernel_rfl) (by kernel_rfl) (fun _ _ _ h=>h) (Or.inl ⟨by rfl,?_⟩) (by assumption) ?_
  rotate_left
  ·intro w hSw;(try dsimp only at hSw);go_simp;try with_reducible rfl
  go_simp
  refine wpAnyH_take (i:=5) (v:=?_) rfl (by kernel_rfl) (by kernel_rfl) (by kernel_rfl) (fun _ _ _ h=>h) (Or.inl ⟨by rfl,?_⟩) (by assumption) ?_
  rotate_left
  ·intro w hSw;(try dsimp only at hSw);go_simp;try with_reducible rfl
  go_simp
  refine wpAnyH_take (i:=6) (v:=?_) rfl (by kernel_rfl) (by kernel_rfl) (by kernel_rfl) (fun _ _ _ h=>h) (Or.inl ⟨by rfl,?_⟩) (by assumption) ?_
  rotate_left
  ·intro w hSw;(try dsimp only at hSw);go_simp;try with_reducible rfl
  go_simp
  refine wpAnyH_take (i:=7) (v:=?_) rfl (by kernel_rfl) (by kernel_rfl) (by kernel_rfl) (fun _ _ _ h=>h) (Or.inl ⟨by rfl,?_⟩) (by assumption) ?_
  rotate_left
  ·intro w hSw;(try dsimp only at hSw);go_simp;try with_reducible rfl
  go_simp
  refine wpAnyH_ready (rs:=[0]) (by kernel_rfl) (by simp) ?_
  refine AllReadyH.cons rfl (fun K hK=>?_) AllReadyH.nil
  go_simp
  refine hK.out _ _ ?_ (fun hHeld=>?_)
  ·exact HBA.out
  clear hK K
  go_simp
  refine wpAnyH_ready (rs:=[4]) (by kernel_rfl) (by simp) ?_
  refine AllReadyH.cons rfl (fun K hK=>?_) AllReadyH.nil
  refine step_own rfl (.tmp 26) (.tmp 29) 24 rfl w2.heap.size 5 i0 (.int .u8 0) 1 1 Tryd.underlying24 HI.out.1 HI.out.2.1 HI.out.2.2.1 HI.out.2.2.2 rfl (by decide) (.slice (some ⟨w2.heap.size,0,none⟩) 0 0) 0 [] (by simp [Act.eval,Act.put,World.drew]) (own_new w2.drew #[] 5 1 0 w2.heap.size w2.heap.size rfl rfl (by unfold maxLen;omega) (Nat.le_refl _)) w2.heap.size A' v c' (bv (ds.take v)) (by simp [Act.eval,Act.put]) ?_ (ones_bv _) (by unfold maxLen;have:=hv2.out;omega) (by have:=hv2.out;omega) HBA.out.size ?_
  ·rw [Nat.mul_one,← bv_take]
   exact (HR.out.head v hl2.out).below HBA.out (Nat.le_refl _)
  intro v5 w5 ho hg
  have HO5:=Lib.hid ho
  have HB5:Hid (Below w2.heap.size w2 w5):=HBA.out.grown hg HBA.out.size (fun g hg=>by simp [Value.ownBlock] at hg;rw [← hg];exact Nat.le_refl _)
  clear ho hg
  refine hK.out _ _ ?_ (fun hHeld=>?_)
  ·exact HB5.out
  clear hK K
  go_simp
  refine wpAnyH_take (i:=8) (v:=?_) rfl (by kernel_rfl) (by kernel_rfl) (by kernel_rfl) (fun _ _ _ h=>h) (Or.inl ⟨by rfl,?_⟩) (by assumption) ?_
  rotate_left
  ·intro w hSw;(try dsimp only at hSw);go_simp;try with_reducible rfl
  go_simp
  refine wpAnyH_take (i:=9) (v:=?_) rfl (by kernel_rfl) (by kernel_rfl) (by kernel_rfl) (fun _ _ _ h=>h) (Or.inl ⟨by rfl,?_⟩) (by assumption) ?_
  rotate_left
  ·intro w hSw;(try dsimp only at hSw);go_simp;try with_reducible rfl
  go_simp
  refine wpAnyH_take (i:=10) (v:=?_) rfl (by kernel_rfl) (by kernel_rfl) (by kernel_rfl) (fun _ _ _ h=>h) (Or.inl ⟨by rfl,?_⟩) (by assumption) ?_
  rotate_left
  ·intro w hSw;(try dsimp only at hSw);go_simp;try with_reducible rfl
  go_simp
  refine wpAnyH_done (by kernel_rfl) ?_ _
  have HT2:=Lib.hid (HR.out.tail c' v hl2.out hcap.out)
  go_wp2_with fail
  all_goals
   go_ret3
   refine ⟨_,_,_,rfl,?_,?_,?_,?_⟩
   ·have ho:=HO5.out
    rw [Nat.zero_add,List.nil_append] at ho
    exact own_base ho hs2.out
   ·have:=hcap.out;omega
   ·refine ⟨?_,?_⟩
    ·rw [← bv_drop]
     have ht:=HT2.out
     unfold tailA at ht
     first | rw [if_neg (by assumption)] at ht | rw [if_pos (by assumption)] at ht
     exact (ht.below HB5.out (Nat.le_refl _)).more HB5.out.size
    ·first | exact ty_below (ty_tail HTY.out v) HB5.out | exact ty_below HTY.out HB5.out
   ·exact h2.out.trans (HB5.out.mono hs2.out)
end Go.Proofs.YtccljifichaieaaDoor.Rv
