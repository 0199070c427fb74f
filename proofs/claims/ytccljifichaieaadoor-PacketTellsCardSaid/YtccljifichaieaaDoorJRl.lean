/- Joined texts. Conditions: as each theorem lists them. -/
import Derived.Test.YtccljifichaieaaDoorJRn
import Derived.Test.YtccljifichaieaaDoorJRv
import Derived.Deep.RegionHeld3
set_option linter.unusedSimpArgs false
set_option linter.unusedVariables false
set_option maxRecDepth 100000
set_option maxHeartbeats 8000000
namespace Go.Proofs.YtccljifichaieaaDoor
open Go Go.RowKit
theorem rlay_1 (id off a b note:Int) (fin:Bool) (data:List Nat) (A:Option Addr) (n c:Nat) (A2:Option Addr) (n2 c2:Nat) (w:World) (hm:allMay []) (hx:Rd w w.heap.size A 0 (bv data)) (hn:0≤120) :
  Calls Tryd.prog 52 #[.agg #[.int .i64 1,.int .i64 0,.int .i64 0,.int .i64 0,.int .i64 0,.int .i64 note,.bool false,.slice A 0 c,.slice A2 0 c2]] w fun e w'=>∃ v',e=.returned v'∧w'.ownsRow w.heap.size 5 1 v' (1+sumW []+0) (encs [1] ++ encs [] ++ bv data)∧Below w.heap.size w w':=by
 have HM:=Lib.hid hm
 have HE9:Hid (ones (encs [1])):=ones_encs _
 have HSW:Hid (sumW []≤8 * 0):=sumW_le _
 obtain ⟨i0,hi,hz0,hz1,hz2⟩:=info_parts infoB
 have HI:=Lib.hid (And.intro hi (And.intro hz0 (And.intro hz1 hz2)))
 have HW:Hid (Below w.heap.size w (w.alloc (.cells #[.int .i64 1,.int .i64 0,.int .i64 0,.int .i64 0,.int .i64 0,.int .i64 note,.bool false,.slice A 0 c,.slice A2 0 c2] 44))):=((Below.refl _ _).alloc (Nat.le_refl _) _)
 have HX:Hid (∀ W,Below (w.alloc (.cells #[.int .i64 1,.int .i64 0,.int .i64 0,.int .i64 0,.int .i64 0,.int .i64 note,.bool false,.slice A 0 c,.slice A2 0 c2] 44)).heap.size (w.alloc (.cells #[.int .i64 1,.int .i64 0,.int .i64 0,.int .i64 0,.int .i64 0,.int .i64 note,.bool false,.slice A 0 c,.slice A2 0 c2] 44)) W→Rd W w.heap.size A 0 (bv data)):=fun W hW=>(hx.below HW.out (Nat.le_refl _)).below hW HW.out.size
 have HL:Hid (∀ W,Below (w.alloc (.cells #[.int .i64 1,.int .i64 0,.int .i64 0,.int .i64 0,.int .i64 0,.int .i64 note,.bool false,.slice A 0 c,.slice A2 0 c2] 44)).heap.size (w.alloc (.cells #[.int .i64 1,.int .i64 0,.int .i64 0,.int .i64 0,.int .i64 0,.int .i64 note,.bool false,.slice A 0 c,.slice A2 0 c2] 44)) W→Rd W (w.alloc (.cells #[.int .i64 1,.int .i64 0,.int .i64 0,.int .i64 0,.int .i64 0,.int .i64 note,.bool false,.slice A 0 c,.slice A2 0 c2] 44)).heap.size none 0 (ints [])):=fun W hW=>Rd.below (Rd.nil _ _ _) hW (Nat.le_refl _)
 have HS:Hid (∀ W,Below (w.alloc (.cells #[.int .i64 1,.int .i64 0,.int .i64 0,.int .i64 0,.int .i64 0,.int .i64 note,.bool false,.slice A 0 c,.slice A2 0 c2] 44)).heap.size (w.alloc (.cells #[.int .i64 1,.int .i64 0,.int .i64 0,.int .i64 0,.int .i64 0,.int .i64 note,.bool false,.slice A 0 c,.slice A2 0 c2] 44)) W→Below (w.alloc (.cells #[.int .i64 1,.int .i64 0,.int .i64 0,.int .i64 0,.int .i64 0,.int .i64 note,.bool false,.slice A 0 c,.slice A2 0 c2] 44)).heap.size (w.alloc (.cells #[.int .i64 1,.int .i64 0,.int .i64 0,.int .i64 0,.int .i64 0,.int .i64 note,.bool false,.slice A 0 c,.slice A2 0 c2] 44)) W∧W.cell? ⟨w.heap.size,0,none⟩=some (.int .i64 1)∧W.cell? ⟨w.heap.size,7,none⟩=some (.slice A 0 c)):=by
  intro W hW
  have h0:((w.alloc (.cells #[.int .i64 1,.int .i64 0,.int .i64 0,.int .i64 0,.int .i64 0,.int .i64 note,.bool false,.slice A 0 c,.slice A2 0 c2] 44))).cell? ⟨w.heap.size,0,none⟩=some (.int .i64 1):=by first | exact World.cell?_alloc_at _ _ _ _ rfl | (rw [World.cell?_alloc_past _ _ _ (by simp)];exact World.cell?_alloc_at _ _ _ _ rfl)
  have h7:((w.alloc (.cells #[.int .i64 1,.int .i64 0,.int .i64 0,.int .i64 0,.int .i64 0,.int .i64 note,.bool false,.slice A 0 c,.slice A2 0 c2] 44))).cell? ⟨w.heap.size,7,none⟩=some (.slice A 0 c):=by first | exact World.cell?_alloc_at _ _ _ _ rfl | (rw [World.cell?_alloc_past _ _ _ (by simp)];exact World.cell?_alloc_at _ _ _ _ rfl)
  exact ⟨hW,by rw [hW.cell (by simp <;> omega)];exact h0,by rw [hW.cell (by simp <;> omega)];exact h7⟩
 clear hm hx hi hz0 hz1 hz2
 go_enter Tryd.func52,Tryd.ntmps52
 go_wp2_with fail
 generalize (w.alloc (.cells #[.int .i64 1,.int .i64 0,.int .i64 0,.int .i64 0,.int .i64 0,.int .i64 note,.bool false,.slice A 0 c,.slice A2 0 c2] 44))=w3 at *
 refine wp_region_noPanic ?_
 refine wp_region_held_drew (S:=(fun W=>Below w3.heap.size w3 W∧W.cell? ⟨w.heap.size,0,none⟩=some (.int .i64 1)∧W.cell? ⟨w.heap.size,7,none⟩=some (.slice A 0 c))) (by kernel_rfl) ?_ (fun hHeld=>?_)
 ·exact HS.out _ (Below.refl _ _).drew
 refine wpAnyH_take (i:=0) (v:=?_) rfl (by kernel_rfl) (by kernel_rfl) (by kernel_rfl) (fun _ _ _ h=>h) (Or.inl ⟨by rfl,?_⟩) (by assumption) ?_
 rotate_left
 ·intro w hSw;(try dsimp only at hSw);go_simp;try with_reducible rfl
 go_simp
 refine wpAnyH_take (i:=1) (v:=?_) rfl (by kernel_rfl) (by kernel_rfl) (by kernel_rfl) (fun _ _ _ h=>h) (Or.inl ⟨by rfl,?_⟩) (by assumption) ?_
 rotate_left
 ·intro w hSw;(try dsimp only at hSw);go_simp;try with_reducible rfl
 go_simp
 refine wpAnyH_take (i:=4) (v:=?_) rfl (by kernel_rfl) (by kernel_rfl) (by kernel_rfl) (fun _ _ _ h=>h) (Or.inl ⟨by rfl,?_⟩) (by assumption) ?_
 rotate_left
 ·intro w hSw;(try dsimp only at hSw);go_simp;try with_reducible rfl
 go_simp
 refine wpAnyH_take (i:=6) (v:=?_) rfl (by kernel_rfl) (by kernel_rfl) (by kernel_rfl) (fun _ _ _ h=>h) (Or.inl ⟨by rfl,?_⟩) (by assumption) ?_
 rotate_left
 ·intro w hSw;(try dsimp only at hSw);go_simp;try with_reducible rfl
 go_simp
 refine wpAnyH_take (i:=7) (v:=?_) rfl (by kernel_rfl) (by kernel_rfl) (by kernel_rfl) (fun _ _ _ h=>h) (Or.inl ⟨by rfl,?_⟩) (by assumption) ?_
 rotate_left
 ·intro w hSw;(try dsimp only at hSw);go_simp;try with_reducible rfl
 go_simp
 refine wpAnyH_ready (rs:=[2]) (by kernel_rfl) (by simp) ?_
 refine AllReadyH.cons rfl (fun K hK=>?_) AllReadyH.nil
 go_simp
 refine hK.out _ _ ?_ (fun hHeld=>?_)
 ·exact HS.out _ ((Below.refl _ _).drew.alloc (Nat.le_refl _) _)
 clear hK K
 go_simp
 refine wpAnyH_ready (rs:=[3]) (by kernel_rfl) (by simp) ?_
 refine AllReadyH.cons rfl (fun K hK=>?_) AllReadyH.nil
 go_simp
 refine (Rv.rPut_ok none 0 0 [] 0 [1] (w3.heap.size+1) (some ⟨w3.heap.size,0,none⟩) 1 _ (Rd.nil _ _ _) (Nat.zero_le _) (by simp [ones]) (Rd.drew (rd_new w3 #[.int .i64 1] _ _ _ _ _ rfl (by simp) rfl rfl)) (by simp) (by decide) (by decide) (by decide)).mono ?_
 rintro e w4 ⟨v4,rfl,ho4,hb4⟩
 rw [show 0+sumW [1]=1 by decide,List.nil_append] at ho4
 have HB4:Hid (Below w3.heap.size w3 w4):=((Below.refl _ _).alloc (Nat.le_refl _) _).drew.trans (hb4.mono (by simp))
 obtain ⟨A4,c4,rfl,_,_,_,hr4⟩:=own_form ho4
 rw [show 1 * 1=1 from rfl] at hr4
 have HP4:=Lib.hid hr4
 clear ho4 hb4 hr4
 refine hK.out _ _ ?_ (fun hHeld=>?_)
 ·exact HS.out _ HB4.out
 clear hK K
 go_simp
 refine wpAnyH_ready (rs:=[5]) (by kernel_rfl) (by simp) ?_
 refine AllReadyH.cons rfl (fun K hK=>?_) AllReadyH.nil
 go_simp
 refine (Rv.rPut_ok A4 1 c4 (encs [1]) w4.heap.size [] w3.heap.size none 0 w4 HP4.out (Nat.le_refl _) HE9.out (HL.out w4 HB4.out) HB4.out.size (by simp) HM.out (by have:=HSW.out;omega)).mono ?_
 rintro e w5 ⟨v5,rfl,ho5,hb5⟩
 have HB5:Hid (Below w3.heap.size w3 w5):=HB4.out.trans (hb5.mono HB4.out.size)
 have HO5:=Lib.hid (own_base ho5 HB4.out.size)
 clear hb5 ho5
 refine hK.out _ _ ?_ (fun hHeld=>?_)
 ·exact HS.out _ HB5.out
 clear hK K
 go_simp
 refine wpAnyH_ready (rs:=[8]) (by kernel_rfl) (by simp) ?_
 refine AllReadyH.cons rfl (fun K hK=>?_) AllReadyH.nil
 refine step_own rfl (.tmp 117) (.tmp 119) 24 rfl w3.heap.size 5 i0 (.int .u8 0) 1 1 Tryd.underlying24 HI.out.1 HI.out.2.1 HI.out.2.2.1 HI.out.2.2.2 rfl (by decide) v5 (1+sumW []) (encs [1] ++ encs []) (by simp [Act.eval,Act.put]) HO5.out w.heap.size A 0 c (bv data) (by simp [Act.eval,Act.put]) (by rw [Nat.mul_one];exact HX.out w5 HB5.out) (ones_bv _) (by have:=HSW.out;unfold maxLen;omega) (by have:=HSW.out;omega) HB5.out.size ?_
 intro v6 w6 ho6 hg6
 have HB6:Hid (Below w3.heap.size w3 w6):=HB5.out.grown hg6 HB5.out.size (fun g hg=>(HO5.out.lt g hg).1)
 have HO6:=Lib.hid (own_base ho6 HW.out.size)
 clear ho6 hg6
 refine hK.out _ _ ?_ (fun hHeld=>?_)
 ·exact HS.out _ HB6.out
 clear hK K
 go_simp
 refine wpAnyH_take (i:=9) (v:=?_) rfl (by kernel_rfl) (by kernel_rfl) (by kernel_rfl) (fun _ _ _ h=>h) (Or.inl ⟨by rfl,?_⟩) (by assumption) ?_
 rotate_left
 ·intro w hSw;(try dsimp only at hSw);go_simp;try with_reducible rfl
 go_simp
 refine wpAnyH_done (by kernel_rfl) ?_ _
 refine NoPanic.normal ?_
 go_wp2_with fail
 go_ret
 exact ⟨_,rfl,HO6.out,HW.out.trans (HB6.out.mono HW.out.size)⟩
theorem rlay_4 (id off a b note:Int) (fin:Bool) (data:List Nat) (A:Option Addr) (n c:Nat) (A2:Option Addr) (n2 c2:Nat) (w:World) (hm:allMay [id,a,off,b]) (hx:Rd w w.heap.size A 0 (bv data)) (hn:0≤120) :
  Calls Tryd.prog 52 #[.agg #[.int .i64 4,.int .i64 id,.int .i64 off,.int .i64 a,.int .i64 b,.int .i64 note,.bool false,.slice A 0 c,.slice A2 0 c2]] w fun e w'=>∃ v',e=.returned v'∧w'.ownsRow w.heap.size 5 1 v' (1+sumW [id,a,off,b]+0) (encs [4] ++ encs [id,a,off,b] ++ bv data)∧Below w.heap.size w w':=by
 have HM:=Lib.hid hm
 have HE9:Hid (ones (encs [4])):=ones_encs _
 have HSW:Hid (sumW [id,a,off,b]≤8 * 4):=sumW_le _
 obtain ⟨i0,hi,hz0,hz1,hz2⟩:=info_parts infoB
 have HI:=Lib.hid (And.intro hi (And.intro hz0 (And.intro hz1 hz2)))
 have HW:Hid (Below w.heap.size w ((w.alloc (.cells #[.int .i64 4,.int .i64 id,.int .i64 off,.int .i64 a,.int .i64 b,.int .i64 note,.bool false,.slice A 0 c,.slice A2 0 c2] 44)).alloc (.cells #[.int .i64 id,.int .i64 a,.int .i64 off,.int .i64 b] 3))):=((Below.refl _ _).alloc (Nat.le_refl _) _).alloc (by simp) _
 have HX:Hid (∀ W,Below ((w.alloc (.cells #[.int .i64 4,.int .i64 id,.int .i64 off,.int .i64 a,.int .i64 b,.int .i64 note,.bool false,.slice A 0 c,.slice A2 0 c2] 44)).alloc (.cells #[.int .i64 id,.int .i64 a,.int .i64 off,.int .i64 b] 3)).heap.size ((w.alloc (.cells #[.int .i64 4,.int .i64 id,.int .i64 off,.int .i64 a,.int .i64 b,.int .i64 note,.bool false,.slice A 0 c,.slice A2 0 c2] 44)).alloc (.cells #[.int .i64 id,.int .i64 a,.int .i64 off,.int .i64 b] 3)) W→Rd W w.heap.size A 0 (bv data)):=fun W hW=>(hx.below HW.out (Nat.le_refl _)).below hW HW.out.size
 have HL:Hid (∀ W,Below ((w.alloc (.cells #[.int .i64 4,.int .i64 id,.int .i64 off,.int .i64 a,.int .i64 b,.int .i64 note,.bool false,.slice A 0 c,.slice A2 0 c2] 44)).alloc (.cells #[.int .i64 id,.int .i64 a,.int .i64 off,.int .i64 b] 3)).heap.size ((w.alloc (.cells #[.int .i64 4,.int .i64 id,.int .i64 off,.int .i64 a,.int .i64 b,.int .i64 note,.bool false,.slice A 0 c,.slice A2 0 c2] 44)).alloc (.cells #[.int .i64 id,.int .i64 a,.int .i64 off,.int .i64 b] 3)) W→Rd W ((w.alloc (.cells #[.int .i64 4,.int .i64 id,.int .i64 off,.int .i64 a,.int .i64 b,.int .i64 note,.bool false,.slice A 0 c,.slice A2 0 c2] 44)).alloc (.cells #[.int .i64 id,.int .i64 a,.int .i64 off,.int .i64 b] 3)).heap.size (some ⟨w.heap.size+1,0,none⟩) 4 (ints [id,a,off,b])):=fun W hW=>Rd.below (rd_new _ _ _ _ _ _ _ (by simp) (by simp) rfl rfl) hW (Nat.le_refl _)
 have HS:Hid (∀ W,Below ((w.alloc (.cells #[.int .i64 4,.int .i64 id,.int .i64 off,.int .i64 a,.int .i64 b,.int .i64 note,.bool false,.slice A 0 c,.slice A2 0 c2] 44)).alloc (.cells #[.int .i64 id,.int .i64 a,.int .i64 off,.int .i64 b] 3)).heap.size ((w.alloc (.cells #[.int .i64 4,.int .i64 id,.int .i64 off,.int .i64 a,.int .i64 b,.int .i64 note,.bool false,.slice A 0 c,.slice A2 0 c2] 44)).alloc (.cells #[.int .i64 id,.int .i64 a,.int .i64 off,.int .i64 b] 3)) W→Below ((w.alloc (.cells #[.int .i64 4,.int .i64 id,.int .i64 off,.int .i64 a,.int .i64 b,.int .i64 note,.bool false,.slice A 0 c,.slice A2 0 c2] 44)).alloc (.cells #[.int .i64 id,.int .i64 a,.int .i64 off,.int .i64 b] 3)).heap.size ((w.alloc (.cells #[.int .i64 4,.int .i64 id,.int .i64 off,.int .i64 a,.int .i64 b,.int .i64 note,.bool false,.slice A 0 c,.slice A2 0 c2] 44)).alloc (.cells #[.int .i64 id,.int .i64 a,.int .i64 off,.int .i64 b] 3)) W∧W.cell? ⟨w.heap.size,0,none⟩=some (.int .i64 4)∧W.cell? ⟨w.heap.size,7,none⟩=some (.slice A 0 c)):=by
  intro W hW
  have h0:(((w.alloc (.cells #[.int .i64 4,.int .i64 id,.int .i64 off,.int .i64 a,.int .i64 b,.int .i64 note,.bool false,.slice A 0 c,.slice A2 0 c2] 44)).alloc (.cells #[.int .i64 id,.int .i64 a,.int .i64 off,.int .i64 b] 3))).cell? ⟨w.heap.size,0,none⟩=some (.int .i64 4):=by first | exact World.cell?_alloc_at _ _ _ _ rfl | (rw [World.cell?_alloc_past _ _ _ (by simp)];exact World.cell?_alloc_at _ _ _ _ rfl)
  have h7:(((w.alloc (.cells #[.int .i64 4,.int .i64 id,.int .i64 off,.int .i64 a,.int .i64 b,.int .i64 note,.bool false,.slice A 0 c,.slice A2 0 c2] 44)).alloc (.cells #[.int .i64 id,.int .i64 a,.int .i64 off,.int .i64 b] 3))).cell? ⟨w.heap.size,7,none⟩=some (.slice A 0 c):=by first | exact World.cell?_alloc_at _ _ _ _ rfl | (rw [World.cell?_alloc_past _ _ _ (by simp)];exact World.cell?_alloc_at _ _ _ _ rfl)
  exact ⟨hW,by rw [hW.cell (by simp <;> omega)];exact h0,by rw [hW.cell (by simp <;> omega)];exact h7⟩
 clear hm hx hi hz0 hz1 hz2
 go_enter Tryd.func52,Tryd.ntmps52
 go_wp2_with fail
 generalize ((w.alloc (.cells #[.int .i64 4,.int .i64 id,.int .i64 off,.int .i64 a,.int .i64 b,.int .i64 note,.bool false,.slice A 0 c,.slice A2 0 c2] 44)).alloc (.cells #[.int .i64 id,.int .i64 a,.int .i64 off,.int .i64 b] 3))=w3 at *
 refine wp_region_noPanic ?_
 refine wp_region_held_drew (S:=(fun W=>Below w3.heap.size w3 W∧W.cell? ⟨w.heap.size,0,none⟩=some (.int .i64 4)∧W.cell? ⟨w.heap.size,7,none⟩=some (.slice A 0 c))) (by kernel_rfl) ?_ (fun hHeld=>?_)
 ·exact HS.out _ (Below.refl _ _).drew
 refine wpAnyH_take (i:=0) (v:=?_) rfl (by kernel_rfl) (by kernel_rfl) (by kernel_rfl) (fun _ _ _ h=>h) (Or.inl ⟨by rfl,?_⟩) (by assumption) ?_
 rotate_left
 ·intro w hSw;(try dsimp only at hSw);go_simp;try with_reducible rfl
 go_simp
 refine wpAnyH_take (i:=1) (v:=?_) rfl (by kernel_rfl) (by kernel_rfl) (by kernel_rfl) (fun _ _ _ h=>h) (Or.inl ⟨by rfl,?_⟩) (by assumption) ?_
 rotate_left
 ·intro w hSw;(try dsimp only at hSw);go_simp;try with_reducible rfl
 go_simp
 refine wpAnyH_take (i:=4) (v:=?_) rfl (by kernel_rfl) (by kernel_rfl) (by kernel_rfl) (fun _ _ _ h=>h) (Or.inl ⟨by rfl,?_⟩) (by assumption) ?_
 rotate_left
 ·intro w hSw;(try dsimp only at hSw);go_simp;try with_reducible rfl
 go_simp
 refine wpAnyH_take (i:=6) (v:=?_) rfl (by kernel_rfl) (by kernel_rfl) (by kernel_rfl) (fun _ _ _ h=>h) (Or.inl ⟨by rfl,?_⟩) (by assumption) ?_
 rotate_left
 ·intro w hSw;(try dsimp only at hSw);go_simp;try with_reducible rfl
 go_simp
 refine wpAnyH_take (i:=7) (v:=?_) rfl (by kernel_rfl) (by kernel_rfl) (by kernel_rfl) (fun _ _ _ h=>h) (Or.inl ⟨by rfl,?_⟩) (by assumption) ?_
 rotate_left
 ·intro w hSw;(try dsimp only at hSw);go_simp;try with_reducible rfl
 go_simp
 refine wpAnyH_ready (rs:=[2]) (by kernel_rfl) (by simp) ?_
 refine AllReadyH.cons rfl (fun K hK=>?_) AllReadyH.nil
 go_simp
 refine hK.out _ _ ?_ (fun hHeld=>?_)
 ·exact HS.out _ ((Below.refl _ _).drew.alloc (Nat.le_refl _) _)
 clear hK K
 go_simp
 refine wpAnyH_ready (rs:=[3]) (by kernel_rfl) (by simp) ?_
 refine AllReadyH.cons rfl (fun K hK=>?_) AllReadyH.nil
 go_simp
 refine (Rv.rPut_ok none 0 0 [] 0 [4] (w3.heap.size+1) (some ⟨w3.heap.size,0,none⟩) 1 _ (Rd.nil _ _ _) (Nat.zero_le _) (by simp [ones]) (Rd.drew (rd_new w3 #[.int .i64 4] _ _ _ _ _ rfl (by simp) rfl rfl)) (by simp) (by decide) (by decide) (by decide)).mono ?_
 rintro e w4 ⟨v4,rfl,ho4,hb4⟩
 rw [show 0+sumW [4]=1 by decide,List.nil_append] at ho4
 have HB4:Hid (Below w3.heap.size w3 w4):=((Below.refl _ _).alloc (Nat.le_refl _) _).drew.trans (hb4.mono (by simp))
 obtain ⟨A4,c4,rfl,_,_,_,hr4⟩:=own_form ho4
 rw [show 1 * 1=1 from rfl] at hr4
 have HP4:=Lib.hid hr4
 clear ho4 hb4 hr4
 refine hK.out _ _ ?_ (fun hHeld=>?_)
 ·exact HS.out _ HB4.out
 clear hK K
 go_simp
 refine wpAnyH_ready (rs:=[5]) (by kernel_rfl) (by simp) ?_
 refine AllReadyH.cons rfl (fun K hK=>?_) AllReadyH.nil
 go_simp
 refine (Rv.rPut_ok A4 1 c4 (encs [4]) w4.heap.size [id,a,off,b] w3.heap.size (some ⟨w.heap.size+1,0,none⟩) 4 w4 HP4.out (Nat.le_refl _) HE9.out (HL.out w4 HB4.out) HB4.out.size (by simp) HM.out (by have:=HSW.out;omega)).mono ?_
 rintro e w5 ⟨v5,rfl,ho5,hb5⟩
 have HB5:Hid (Below w3.heap.size w3 w5):=HB4.out.trans (hb5.mono HB4.out.size)
 have HO5:=Lib.hid (own_base ho5 HB4.out.size)
 clear hb5 ho5
 refine hK.out _ _ ?_ (fun hHeld=>?_)
 ·exact HS.out _ HB5.out
 clear hK K
 go_simp
 refine wpAnyH_ready (rs:=[8]) (by kernel_rfl) (by simp) ?_
 refine AllReadyH.cons rfl (fun K hK=>?_) AllReadyH.nil
 refine step_own rfl (.tmp 117) (.tmp 119) 24 rfl w3.heap.size 5 i0 (.int .u8 0) 1 1 Tryd.underlying24 HI.out.1 HI.out.2.1 HI.out.2.2.1 HI.out.2.2.2 rfl (by decide) v5 (1+sumW [id,a,off,b]) (encs [4] ++ encs [id,a,off,b]) (by simp [Act.eval,Act.put]) HO5.out w.heap.size A 0 c (bv data) (by simp [Act.eval,Act.put]) (by rw [Nat.mul_one];exact HX.out w5 HB5.out) (ones_bv _) (by have:=HSW.out;unfold maxLen;omega) (by have:=HSW.out;omega) HB5.out.size ?_
 intro v6 w6 ho6 hg6
 have HB6:Hid (Below w3.heap.size w3 w6):=HB5.out.grown hg6 HB5.out.size (fun g hg=>(HO5.out.lt g hg).1)
 have HO6:=Lib.hid (own_base ho6 HW.out.size)
 clear ho6 hg6
 refine hK.out _ _ ?_ (fun hHeld=>?_)
 ·exact HS.out _ HB6.out
 clear hK K
 go_simp
 refine wpAnyH_take (i:=9) (v:=?_) rfl (by kernel_rfl) (by kernel_rfl) (by kernel_rfl) (fun _ _ _ h=>h) (Or.inl ⟨by rfl,?_⟩) (by assumption) ?_
 rotate_left
 ·intro w hSw;(try dsimp only at hSw);go_simp;try with_reducible rfl
 go_simp
 refine wpAnyH_done (by kernel_rfl) ?_ _
 refine NoPanic.normal ?_
 go_wp2_with fail
 go_ret
 exact ⟨_,rfl,HO6.out,HW.out.trans (HB6.out.mono HW.out.size)⟩
theorem rlay_5 (id off a b note:Int) (fin:Bool) (data:List Nat) (A:Option Addr) (n c:Nat) (A2:Option Addr) (n2 c2:Nat) (w:World) (hm:allMay [id,a]) (hx:Rd w w.heap.size A 0 (bv data)) (hn:0≤120) :
  Calls Tryd.prog 52 #[.agg #[.int .i64 5,.int .i64 id,.int .i64 0,.int .i64 a,.int .i64 0,.int .i64 note,.bool false,.slice A 0 c,.slice A2 0 c2]] w fun e w'=>∃ v',e=.returned v'∧w'.ownsRow w.heap.size 5 1 v' (1+sumW [id,a]+0) (encs [5] ++ encs [id,a] ++ bv data)∧Below w.heap.size w w':=by
 have HM:=Lib.hid hm
 have HE9:Hid (ones (encs [5])):=ones_encs _
 have HSW:Hid (sumW [id,a]≤8 * 2):=sumW_le _
 obtain ⟨i0,hi,hz0,hz1,hz2⟩:=info_parts infoB
 have HI:=Lib.hid (And.intro hi (And.intro hz0 (And.intro hz1 hz2)))
 have HW:Hid (Below w.heap.size w ((w.alloc (.cells #[.int .i64 5,.int .i64 id,.int .i64 0,.int .i64 a,.int .i64 0,.int .i64 note,.bool false,.slice A 0 c,.slice A2 0 c2] 44)).alloc (.cells #[.int .i64 id,.int .i64 a] 3))):=((Below.refl _ _).alloc (Nat.le_refl _) _).alloc (by simp) _
 have HX:Hid (∀ W,Below ((w.alloc (.cells #[.int .i64 5,.int .i64 id,.int .i64 0,.int .i64 a,.int .i64 0,.int .i64 note,.bool false,.slice A 0 c,.slice A2 0 c2] 44)).alloc (.cells #[.int .i64 id,.int .i64 a] 3)).heap.size ((w.alloc (.cells #[.int .i64 5,.int .i64 id,.int .i64 0,.int .i64 a,.int .i64 0,.int .i64 note,.bool false,.slice A 0 c,.slice A2 0 c2] 44)).alloc (.cells #[.int .i64 id,.int .i64 a] 3)) W→Rd W w.heap.size A 0 (bv data)):=fun W hW=>(hx.below HW.out (Nat.le_refl _)).below hW HW.out.size
 have HL:Hid (∀ W,Below ((w.alloc (.cells #[.int .i64 5,.int .i64 id,.int .i64 0,.int .i64 a,.int .i64 0,.int .i64 note,.bool false,.slice A 0 c,.slice A2 0 c2] 44)).alloc (.cells #[.int .i64 id,.int .i64 a] 3)).heap.size ((w.alloc (.cells #[.int .i64 5,.int .i64 id,.int .i64 0,.int .i64 a,.int .i64 0,.int .i64 note,.bool false,.slice A 0 c,.slice A2 0 c2] 44)).alloc (.cells #[.int .i64 id,.int .i64 a] 3)) W→Rd W ((w.alloc (.cells #[.int .i64 5,.int .i64 id,.int .i64 0,.int .i64 a,.int .i64 0,.int .i64 note,.bool false,.slice A 0 c,.slice A2 0 c2] 44)).alloc (.cells #[.int .i64 id,.int .i64 a] 3)).heap.size (some ⟨w.heap.size+1,0,none⟩) 2 (ints [id,a])):=fun W hW=>Rd.below (rd_new _ _ _ _ _ _ _ (by simp) (by simp) rfl rfl) hW (Nat.le_refl _)
 have HS:Hid (∀ W,Below ((w.alloc (.cells #[.int .i64 5,.int .i64 id,.int .i64 0,.int .i64 a,.int .i64 0,.int .i64 note,.bool false,.slice A 0 c,.slice A2 0 c2] 44)).alloc (.cells #[.int .i64 id,.int .i64 a] 3)).heap.size ((w.alloc (.cells #[.int .i64 5,.int .i64 id,.int .i64 0,.int .i64 a,.int .i64 0,.int .i64 note,.bool false,.slice A 0 c,.slice A2 0 c2] 44)).alloc (.cells #[.int .i64 id,.int .i64 a] 3)) W→Below ((w.alloc (.cells #[.int .i64 5,.int .i64 id,.int .i64 0,.int .i64 a,.int .i64 0,.int .i64 note,.bool false,.slice A 0 c,.slice A2 0 c2] 44)).alloc (.cells #[.int .i64 id,.int .i64 a] 3)).heap.size ((w.alloc (.cells #[.int .i64 5,.int .i64 id,.int .i64 0,.int .i64 a,.int .i64 0,.int .i64 note,.bool false,.slice A 0 c,.slice A2 0 c2] 44)).alloc (.cells #[.int .i64 id,.int .i64 a] 3)) W∧W.cell? ⟨w.heap.size,0,none⟩=some (.int .i64 5)∧W.cell? ⟨w.heap.size,7,none⟩=some (.slice A 0 c)):=by
  intro W hW
  have h0:(((w.alloc (.cells #[.int .i64 5,.int .i64 id,.int .i64 0,.int .i64 a,.int .i64 0,.int .i64 note,.bool false,.slice A 0 c,.slice A2 0 c2] 44)).alloc (.cells #[.int .i64 id,.int .i64 a] 3))).cell? ⟨w.heap.size,0,none⟩=some (.int .i64 5):=by first | exact World.cell?_alloc_at _ _ _ _ rfl | (rw [World.cell?_alloc_past _ _ _ (by simp)];exact World.cell?_alloc_at _ _ _ _ rfl)
  have h7:(((w.alloc (.cells #[.int .i64 5,.int .i64 id,.int .i64 0,.int .i64 a,.int .i64 0,.int .i64 note,.bool false,.slice A 0 c,.slice A2 0 c2] 44)).alloc (.cells #[.int .i64 id,.int .i64 a] 3))).cell? ⟨w.heap.size,7,none⟩=some (.slice A 0 c):=by first | exact World.cell?_alloc_at _ _ _ _ rfl | (rw [World.cell?_alloc_past _ _ _ (by simp)];exact World.cell?_alloc_at _ _ _ _ rfl)
  exact ⟨hW,by rw [hW.cell (by simp <;> omega)];exact h0,by rw [hW.cell (by simp <;> omega)];exact h7⟩
 clear hm hx hi hz0 hz1 hz2
 go_enter Tryd.func52,Tryd.ntmps52
 go_wp2_with fail
 generalize ((w.alloc (.cells #[.int .i64 5,.int .i64 id,.int .i64 0,.int .i64 a,.int .i64 0,.int .i64 note,.bool false,.slice A 0 c,.slice A2 0 c2] 44)).alloc (.cells #[.int .i64 id,.int .i64 a] 3))=w3 at *
 refine wp_region_noPanic ?_
 refine wp_region_held_drew (S:=(fun W=>Below w3.heap.size w3 W∧W.cell? ⟨w.heap.size,0,none⟩=some (.int .i64 5)∧W.cell? ⟨w.heap.size,7,none⟩=some (.slice A 0 c))) (by kernel_rfl) ?_ (fun hHeld=>?_)
 ·exact HS.out _ (Below.refl _ _).drew
 refine wpAnyH_take (i:=0) (v:=?_) rfl (by kernel_rfl) (by kernel_rfl) (by kernel_rfl) (fun _ _ _ h=>h) (Or.inl ⟨by rfl,?_⟩) (by assumption) ?_
 rotate_left
 ·intro w hSw;(try dsimp only at hSw);go_simp;try with_reducible rfl
 go_simp
 refine wpAnyH_take (i:=1) (v:=?_) rfl (by kernel_rfl) (by kernel_rfl) (by kernel_rfl) (fun _ _ _ h=>h) (Or.inl ⟨by rfl,?_⟩) (by assumption) ?_
 rotate_left
 ·intro w hSw;(try dsimp only at hSw);go_simp;try with_reducible rfl
 go_simp
 refine wpAnyH_take (i:=4) (v:=?_) rfl (by kernel_rfl) (by kernel_rfl) (by kernel_rfl) (fun _ _ _ h=>h) (Or.inl ⟨by rfl,?_⟩) (by assumption) ?_
 rotate_left
 ·intro w hSw;(try dsimp only at hSw);go_simp;try with_reducible rfl
 go_simp
 refine wpAnyH_take (i:=6) (v:=?_) rfl (by kernel_rfl) (by kernel_rfl) (by kernel_rfl) (fun _ _ _ h=>h) (Or.inl ⟨by rfl,?_⟩) (by assumption) ?_
 rotate_left
 ·intro w hSw;(try dsimp only at hSw);go_simp;try with_reducible rfl
 go_simp
 refine wpAnyH_take (i:=7) (v:=?_) rfl (by kernel_rfl) (by kernel_rfl) (by kernel_rfl) (fun _ _ _ h=>h) (Or.inl ⟨by rfl,?_⟩) (by assumption) ?_
 rotate_left
 ·intro w hSw;(try dsimp only at hSw);go_simp;try with_reducible rfl
 go_simp
 refine wpAnyH_ready (rs:=[2]) (by kernel_rfl) (by simp) ?_
 refine AllReadyH.cons rfl (fun K hK=>?_) AllReadyH.nil
 go_simp
 refine hK.out _ _ ?_ (fun hHeld=>?_)
 ·exact HS.out _ ((Below.refl _ _).drew.alloc (Nat.le_refl _) _)
 clear hK K
 go_simp
 refine wpAnyH_ready (rs:=[3]) (by kernel_rfl) (by simp) ?_
 refine AllReadyH.cons rfl (fun K hK=>?_) AllReadyH.nil
 go_simp
 refine (Rv.rPut_ok none 0 0 [] 0 [5] (w3.heap.size+1) (some ⟨w3.heap.size,0,none⟩) 1 _ (Rd.nil _ _ _) (Nat.zero_le _) (by simp [ones]) (Rd.drew (rd_new w3 #[.int .i64 5] _ _ _ _ _ rfl (by simp) rfl rfl)) (by simp) (by decide) (by decide) (by decide)).mono ?_
 rintro e w4 ⟨v4,rfl,ho4,hb4⟩
 rw [show 0+sumW [5]=1 by decide,List.nil_append] at ho4
 have HB4:Hid (Below w3.heap.size w3 w4):=((Below.refl _ _).alloc (Nat.le_refl _) _).drew.trans (hb4.mono (by simp))
 obtain ⟨A4,c4,rfl,_,_,_,hr4⟩:=own_form ho4
 rw [show 1 * 1=1 from rfl] at hr4
 have HP4:=Lib.hid hr4
 clear ho4 hb4 hr4
 refine hK.out _ _ ?_ (fun hHeld=>?_)
 ·exact HS.out _ HB4.out
 clear hK K
 go_simp
 refine wpAnyH_ready (rs:=[5]) (by kernel_rfl) (by simp) ?_
 refine AllReadyH.cons rfl (fun K hK=>?_) AllReadyH.nil
 go_simp
 refine (Rv.rPut_ok A4 1 c4 (encs [5]) w4.heap.size [id,a] w3.heap.size (some ⟨w.heap.size+1,0,none⟩) 2 w4 HP4.out (Nat.le_refl _) HE9.out (HL.out w4 HB4.out) HB4.out.size (by simp) HM.out (by have:=HSW.out;omega)).mono ?_
 rintro e w5 ⟨v5,rfl,ho5,hb5⟩
 have HB5:Hid (Below w3.heap.size w3 w5):=HB4.out.trans (hb5.mono HB4.out.size)
 have HO5:=Lib.hid (own_base ho5 HB4.out.size)
 clear hb5 ho5
 refine hK.out _ _ ?_ (fun hHeld=>?_)
 ·exact HS.out _ HB5.out
 clear hK K
 go_simp
 refine wpAnyH_ready (rs:=[8]) (by kernel_rfl) (by simp) ?_
 refine AllReadyH.cons rfl (fun K hK=>?_) AllReadyH.nil
 refine step_own rfl (.tmp 117) (.tmp 119) 24 rfl w3.heap.size 5 i0 (.int .u8 0) 1 1 Tryd.underlying24 HI.out.1 HI.out.2.1 HI.out.2.2.1 HI.out.2.2.2 rfl (by decide) v5 (1+sumW [id,a]) (encs [5] ++ encs [id,a]) (by simp [Act.eval,Act.put]) HO5.out w.heap.size A 0 c (bv data) (by simp [Act.eval,Act.put]) (by rw [Nat.mul_one];exact HX.out w5 HB5.out) (ones_bv _) (by have:=HSW.out;unfold maxLen;omega) (by have:=HSW.out;omega) HB5.out.size ?_
 intro v6 w6 ho6 hg6
 have HB6:Hid (Below w3.heap.size w3 w6):=HB5.out.grown hg6 HB5.out.size (fun g hg=>(HO5.out.lt g hg).1)
 have HO6:=Lib.hid (own_base ho6 HW.out.size)
 clear ho6 hg6
 refine hK.out _ _ ?_ (fun hHeld=>?_)
 ·exact HS.out _ HB6.out
 clear hK K
 go_simp
 refine wpAnyH_take (i:=9) (v:=?_) rfl (by kernel_rfl) (by kernel_rfl) (by kernel_rfl) (fun _ _ _ h=>h) (Or.inl ⟨by rfl,?_⟩) (by assumption) ?_
 rotate_left
 ·intro w hSw;(try dsimp only at hSw);go_simp;try with_reducible rfl
 go_simp
 refine wpAnyH_done (by kernel_rfl) ?_ _
 refine NoPanic.normal ?_
 go_wp2_with fail
 go_ret
 exact ⟨_,rfl,HO6.out,HW.out.trans (HB6.out.mono HW.out.size)⟩
theorem rlay_6 (id off a b note:Int) (fin:Bool) (data:List Nat) (A:Option Addr) (n c:Nat) (A2:Option Addr) (n2 c2:Nat) (w:World) (hm:allMay [a]) (hx:Rd w w.heap.size A 0 (bv data)) (hn:0≤120) :
  Calls Tryd.prog 52 #[.agg #[.int .i64 6,.int .i64 0,.int .i64 0,.int .i64 a,.int .i64 0,.int .i64 note,.bool false,.slice A 0 c,.slice A2 0 c2]] w fun e w'=>∃ v',e=.returned v'∧w'.ownsRow w.heap.size 5 1 v' (1+sumW [a]+0) (encs [6] ++ encs [a] ++ bv data)∧Below w.heap.size w w':=by
 have HM:=Lib.hid hm
 have HE9:Hid (ones (encs [6])):=ones_encs _
 have HSW:Hid (sumW [a]≤8 * 1):=sumW_le _
 obtain ⟨i0,hi,hz0,hz1,hz2⟩:=info_parts infoB
 have HI:=Lib.hid (And.intro hi (And.intro hz0 (And.intro hz1 hz2)))
 have HW:Hid (Below w.heap.size w ((w.alloc (.cells #[.int .i64 6,.int .i64 0,.int .i64 0,.int .i64 a,.int .i64 0,.int .i64 note,.bool false,.slice A 0 c,.slice A2 0 c2] 44)).alloc (.cells #[.int .i64 a] 3))):=((Below.refl _ _).alloc (Nat.le_refl _) _).alloc (by simp) _
 have HX:Hid (∀ W,Below ((w.alloc (.cells #[.int .i64 6,.int .i64 0,.int .i64 0,.int .i64 a,.int .i64 0,.int .i64 note,.bool false,.slice A 0 c,.slice A2 0 c2] 44)).alloc (.cells #[.int .i64 a] 3)).heap.size ((w.alloc (.cells #[.int .i64 6,.int .i64 0,.int .i64 0,.int .i64 a,.int .i64 0,.int .i64 note,.bool false,.slice A 0 c,.slice A2 0 c2] 44)).alloc (.cells #[.int .i64 a] 3)) W→Rd W w.heap.size A 0 (bv data)):=fun W hW=>(hx.below HW.out (Nat.le_refl _)).below hW HW.out.size
 have HL:Hid (∀ W,Below ((w.alloc (.cells #[.int .i64 6,.int .i64 0,.int .i64 0,.int .i64 a,.int .i64 0,.int .i64 note,.bool false,.slice A 0 c,.slice A2 0 c2] 44)).alloc (.cells #[.int .i64 a] 3)).heap.size ((w.alloc (.cells #[.int .i64 6,.int .i64 0,.int .i64 0,.int .i64 a,.int .i64 0,.int .i64 note,.bool false,.slice A 0 c,.slice A2 0 c2] 44)).alloc (.cells #[.int .i64 a] 3)) W→Rd W ((w.alloc (.cells #[.int .i64 6,.int .i64 0,.int .i64 0,.int .i64 a,.int .i64 0,.int .i64 note,.bool false,.slice A 0 c,.slice A2 0 c2] 44)).alloc (.cells #[.int .i64 a] 3)).heap.size (some ⟨w.heap.size+1,0,none⟩) 1 (ints [a])):=fun W hW=>Rd.below (rd_new _ _ _ _ _ _ _ (by simp) (by simp) rfl rfl) hW (Nat.le_refl _)
 have HS:Hid (∀ W,Below ((w.alloc (.cells #[.int .i64 6,.int .i64 0,.int .i64 0,.int .i64 a,.int .i64 0,.int .i64 note,.bool false,.slice A 0 c,.slice A2 0 c2] 44)).alloc (.cells #[.int .i64 a] 3)).heap.size ((w.alloc (.cells #[.int .i64 6,.int .i64 0,.int .i64 0,.int .i64 a,.int .i64 0,.int .i64 note,.bool false,.slice A 0 c,.slice A2 0 c2] 44)).alloc (.cells #[.int .i64 a] 3)) W→Below ((w.alloc (.cells #[.int .i64 6,.int .i64 0,.int .i64 0,.int .i64 a,.int .i64 0,.int .i64 note,.bool false,.slice A 0 c,.slice A2 0 c2] 44)).alloc (.cells #[.int .i64 a] 3)).heap.size ((w.alloc (.cells #[.int .i64 6,.int .i64 0,.int .i64 0,.int .i64 a,.int .i64 0,.int .i64 note,.bool false,.slice A 0 c,.slice A2 0 c2] 44)).alloc (.cells #[.int .i64 a] 3)) W∧W.cell? ⟨w.heap.size,0,none⟩=some (.int .i64 6)∧W.cell? ⟨w.heap.size,7,none⟩=some (.slice A 0 c)):=by
  intro W hW
  have h0:(((w.alloc (.cells #[.int .i64 6,.int .i64 0,.int .i64 0,.int .i64 a,.int .i64 0,.int .i64 note,.bool false,.slice A 0 c,.slice A2 0 c2] 44)).alloc (.cells #[.int .i64 a] 3))).cell? ⟨w.heap.size,0,none⟩=some (.int .i64 6):=by first | exact World.cell?_alloc_at _ _ _ _ rfl | (rw [World.cell?_alloc_past _ _ _ (by simp)];exact World.cell?_alloc_at _ _ _ _ rfl)
  have h7:(((w.alloc (.cells #[.int .i64 6,.int .i64 0,.int .i64 0,.int .i64 a,.int .i64 0,.int .i64 note,.bool false,.slice A 0 c,.slice A2 0 c2] 44)).alloc (.cells #[.int .i64 a] 3))).cell? ⟨w.heap.size,7,none⟩=some (.slice A 0 c):=by first | exact World.cell?_alloc_at _ _ _ _ rfl | (rw [World.cell?_alloc_past _ _ _ (by simp)];exact World.cell?_alloc_at _ _ _ _ rfl)
  exact ⟨hW,by rw [hW.cell (by simp <;> omega)];exact h0,by rw [hW.cell (by simp <;> omega)];exact h7⟩
 clear hm hx hi hz0 hz1 hz2
 go_enter Tryd.func52,Tryd.ntmps52
 go_wp2_with fail
 generalize ((w.alloc (.cells #[.int .i64 6,.int .i64 0,.int .i64 0,.int .i64 a,.int .i64 0,.int .i64 note,.bool false,.slice A 0 c,.slice A2 0 c2] 44)).alloc (.cells #[.int .i64 a] 3))=w3 at *
 refine wp_region_noPanic ?_
 refine wp_region_held_drew (S:=(fun W=>Below w3.heap.size w3 W∧W.cell? ⟨w.heap.size,0,none⟩=some (.int .i64 6)∧W.cell? ⟨w.heap.size,7,none⟩=some (.slice A 0 c))) (by kernel_rfl) ?_ (fun hHeld=>?_)
 ·exact HS.out _ (Below.refl _ _).drew
 refine wpAnyH_take (i:=0) (v:=?_) rfl (by kernel_rfl) (by kernel_rfl) (by kernel_rfl) (fun _ _ _ h=>h) (Or.inl ⟨by rfl,?_⟩) (by assumption) ?_
 rotate_left
 ·intro w hSw;(try dsimp only at hSw);go_simp;try with_reducible rfl
 go_simp
 refine wpAnyH_take (i:=1) (v:=?_) rfl (by kernel_rfl) (by kernel_rfl) (by kernel_rfl) (fun _ _ _ h=>h) (Or.inl ⟨by rfl,?_⟩) (by assumption) ?_
 rotate_left
 ·intro w hSw;(try dsimp only at hSw);go_simp;try with_reducible rfl
 go_simp
 refine wpAnyH_take (i:=4) (v:=?_) rfl (by kernel_rfl) (by kernel_rfl) (by kernel_rfl) (fun _ _ _ h=>h) (Or.inl ⟨by rfl,?_⟩) (by assumption) ?_
 rotate_left
 ·intro w hSw;(try dsimp only at hSw);go_simp;try with_reducible rfl
 go_simp
 refine wpAnyH_take (i:=6) (v:=?_) rfl (by kernel_rfl) (by kernel_rfl) (by kernel_rfl) (fun _ _ _ h=>h) (Or.inl ⟨by rfl,?_⟩) (by assumption) ?_
 rotate_left
 ·intro w hSw;(try dsimp only at hSw);go_simp;try with_reducible rfl
 go_simp
 refine wpAnyH_take (i:=7) (v:=?_) rfl (by kernel_rfl) (by kernel_rfl) (by kernel_rfl) (fun _ _ _ h=>h) (Or.inl ⟨by rfl,?_⟩) (by assumption) ?_
 rotate_left
 ·intro w hSw;(try dsimp only at hSw);go_simp;try with_reducible rfl
 go_simp
 refine wpAnyH_ready (rs:=[2]) (by kernel_rfl) (by simp) ?_
 refine AllReadyH.cons rfl (fun K hK=>?_) AllReadyH.nil
 go_simp
 refine hK.out _ _ ?_ (fun hHeld=>?_)
 ·exact HS.out _ ((Below.refl _ _).drew.alloc (Nat.le_refl _) _)
 clear hK K
 go_simp
 refine wpAnyH_ready (rs:=[3]) (by kernel_rfl) (by simp) ?_
 refine AllReadyH.cons rfl (fun K hK=>?_) AllReadyH.nil
 go_simp
 refine (Rv.rPut_ok none 0 0 [] 0 [6] (w3.heap.size+1) (some ⟨w3.heap.size,0,none⟩) 1 _ (Rd.nil _ _ _) (Nat.zero_le _) (by simp [ones]) (Rd.drew (rd_new w3 #[.int .i64 6] _ _ _ _ _ rfl (by simp) rfl rfl)) (by simp) (by decide) (by decide) (by decide)).mono ?_
 rintro e w4 ⟨v4,rfl,ho4,hb4⟩
 rw [show 0+sumW [6]=1 by decide,List.nil_append] at ho4
 have HB4:Hid (Below w3.heap.size w3 w4):=((Below.refl _ _).alloc (Nat.le_refl _) _).drew.trans (hb4.mono (by simp))
 obtain ⟨A4,c4,rfl,_,_,_,hr4⟩:=own_form ho4
 rw [show 1 * 1=1 from rfl] at hr4
 have HP4:=Lib.hid hr4
 clear ho4 hb4 hr4
 refine hK.out _ _ ?_ (fun hHeld=>?_)
 ·exact HS.out _ HB4.out
 clear hK K
 go_simp
 refine wpAnyH_ready (rs:=[5]) (by kernel_rfl) (by simp) ?_
 refine AllReadyH.cons rfl (fun K hK=>?_) AllReadyH.nil
 go_simp
 refine (Rv.rPut_ok A4 1 c4 (encs [6]) w4.heap.size [a] w3.heap.size (some ⟨w.heap.size+1,0,none⟩) 1 w4 HP4.out (Nat.le_refl _) HE9.out (HL.out w4 HB4.out) HB4.out.size (by simp) HM.out (by have:=HSW.out;omega)).mono ?_
 rintro e w5 ⟨v5,rfl,ho5,hb5⟩
 have HB5:Hid (Below w3.heap.size w3 w5):=HB4.out.trans (hb5.mono HB4.out.size)
 have HO5:=Lib.hid (own_base ho5 HB4.out.size)
 clear hb5 ho5
 refine hK.out _ _ ?_ (fun hHeld=>?_)
 ·exact HS.out _ HB5.out
 clear hK K
 go_simp
 refine wpAnyH_ready (rs:=[8]) (by kernel_rfl) (by simp) ?_
 refine AllReadyH.cons rfl (fun K hK=>?_) AllReadyH.nil
 refine step_own rfl (.tmp 117) (.tmp 119) 24 rfl w3.heap.size 5 i0 (.int .u8 0) 1 1 Tryd.underlying24 HI.out.1 HI.out.2.1 HI.out.2.2.1 HI.out.2.2.2 rfl (by decide) v5 (1+sumW [a]) (encs [6] ++ encs [a]) (by simp [Act.eval,Act.put]) HO5.out w.heap.size A 0 c (bv data) (by simp [Act.eval,Act.put]) (by rw [Nat.mul_one];exact HX.out w5 HB5.out) (ones_bv _) (by have:=HSW.out;unfold maxLen;omega) (by have:=HSW.out;omega) HB5.out.size ?_
 intro v6 w6 ho6 hg6
 have HB6:Hid (Below w3.heap.size w3 w6):=HB5.out.grown hg6 HB5.out.size (fun g hg=>(HO5.out.lt g hg).1)
 have HO6:=Lib.hid (own_base ho6 HW.out.size)
 clear ho6 hg6
 refine hK.out _ _ ?_ (fun hHeld=>?_)
 ·exact HS.out _ HB6.out
 clear hK K
 go_simp
 refine wpAnyH_take (i:=9) (v:=?_) rfl (by kernel_rfl) (by kernel_rfl) (by kernel_rfl) (fun _ _ _ h=>h) (Or.inl ⟨by rfl,?_⟩) (by assumption) ?_
 rotate_left
 ·intro w hSw;(try dsimp only at hSw);go_simp;try with_reducible rfl
 go_simp
 refine wpAnyH_done (by kernel_rfl) ?_ _
 refine NoPanic.normal ?_
 go_wp2_with fail
 go_ret
 exact ⟨_,rfl,HO6.out,HW.out.trans (HB6.out.mono HW.out.size)⟩
theorem rlay_7 (id off a b note:Int) (fin:Bool) (data:List Nat) (A:Option Addr) (n c:Nat) (A2:Option Addr) (n2 c2:Nat) (w:World) (hm:allMay [id,a]) (hx:Rd w w.heap.size A 0 (bv data)) (hn:0≤120) :
  Calls Tryd.prog 52 #[.agg #[.int .i64 7,.int .i64 id,.int .i64 0,.int .i64 a,.int .i64 0,.int .i64 note,.bool false,.slice A 0 c,.slice A2 0 c2]] w fun e w'=>∃ v',e=.returned v'∧w'.ownsRow w.heap.size 5 1 v' (1+sumW [id,a]+0) (encs [7] ++ encs [id,a] ++ bv data)∧Below w.heap.size w w':=by
 have HM:=Lib.hid hm
 have HE9:Hid (ones (encs [7])):=ones_encs _
 have HSW:Hid (sumW [id,a]≤8 * 2):=sumW_le _
 obtain ⟨i0,hi,hz0,hz1,hz2⟩:=info_parts infoB
 have HI:=Lib.hid (And.intro hi (And.intro hz0 (And.intro hz1 hz2)))
 have HW:Hid (Below w.heap.size w ((w.alloc (.cells #[.int .i64 7,.int .i64 id,.int .i64 0,.int .i64 a,.int .i64 0,.int .i64 note,.bool false,.slice A 0 c,.slice A2 0 c2] 44)).alloc (.cells #[.int .i64 id,.int .i64 a] 3))):=((Below.refl _ _).alloc (Nat.le_refl _) _).alloc (by simp) _
 have HX:Hid (∀ W,Below ((w.alloc (.cells #[.int .i64 7,.int .i64 id,.int .i64 0,.int .i64 a,.int .i64 0,.int .i64 note,.bool false,.slice A 0 c,.slice A2 0 c2] 44)).alloc (.cells #[.int .i64 id,.int .i64 a] 3)).heap.size ((w.alloc (.cells #[.int .i64 7,.int .i64 id,.int .i64 0,.int .i64 a,.int .i64 0,.int .i64 note,.bool false,.slice A 0 c,.slice A2 0 c2] 44)).alloc (.cells #[.int .i64 id,.int .i64 a] 3)) W→Rd W w.heap.size A 0 (bv data)):=fun W hW=>(hx.below HW.out (Nat.le_refl _)).below hW HW.out.size
 have HL:Hid (∀ W,Below ((w.alloc (.cells #[.int .i64 7,.int .i64 id,.int .i64 0,.int .i64 a,.int .i64 0,.int .i64 note,.bool false,.slice A 0 c,.slice A2 0 c2] 44)).alloc (.cells #[.int .i64 id,.int .i64 a] 3)).heap.size ((w.alloc (.cells #[.int .i64 7,.int .i64 id,.int .i64 0,.int .i64 a,.int .i64 0,.int .i64 note,.bool false,.slice A 0 c,.slice A2 0 c2] 44)).alloc (.cells #[.int .i64 id,.int .i64 a] 3)) W→Rd W ((w.alloc (.cells #[.int .i64 7,.int .i64 id,.int .i64 0,.int .i64 a,.int .i64 0,.int .i64 note,.bool false,.slice A 0 c,.slice A2 0 c2] 44)).alloc (.cells #[.int .i64 id,.int .i64 a] 3)).heap.size (some ⟨w.heap.size+1,0,none⟩) 2 (ints [id,a])):=fun W hW=>Rd.below (rd_new _ _ _ _ _ _ _ (by simp) (by simp) rfl rfl) hW (Nat.le_refl _)
 have HS:Hid (∀ W,Below ((w.alloc (.cells #[.int .i64 7,.int .i64 id,.int .i64 0,.int .i64 a,.int .i64 0,.int .i64 note,.bool false,.slice A 0 c,.slice A2 0 c2] 44)).alloc (.cells #[.int .i64 id,.int .i64 a] 3)).heap.size ((w.alloc (.cells #[.int .i64 7,.int .i64 id,.int .i64 0,.int .i64 a,.int .i64 0,.int .i64 note,.bool false,.slice A 0 c,.slice A2 0 c2] 44)).alloc (.cells #[.int .i64 id,.int .i64 a] 3)) W→Below ((w.alloc (.cells #[.int .i64 7,.int .i64 id,.int .i64 0,.int .i64 a,.int .i64 0,.int .i64 note,.bool false,.slice A 0 c,.slice A2 0 c2] 44)).alloc (.cells #[.int .i64 id,.int .i64 a] 3)).heap.size ((w.alloc (.cells #[.int .i64 7,.int .i64 id,.int .i64 0,.int .i64 a,.int .i64 0,.int .i64 note,.bool false,.slice A 0 c,.slice A2 0 c2] 44)).alloc (.cells #[.int .i64 id,.int .i64 a] 3)) W∧W.cell? ⟨w.heap.size,0,none⟩=some (.int .i64 7)∧W.cell? ⟨w.heap.size,7,none⟩=some (.slice A 0 c)):=by
  intro W hW
  have h0:(((w.alloc (.cells #[.int .i64 7,.int .i64 id,.int .i64 0,.int .i64 a,.int .i64 0,.int .i64 note,.bool false,.slice A 0 c,.slice A2 0 c2] 44)).alloc (.cells #[.int .i64 id,.int .i64 a] 3))).cell? ⟨w.heap.size,0,none⟩=some (.int .i64 7):=by first | exact World.cell?_alloc_at _ _ _ _ rfl | (rw [World.cell?_alloc_past _ _ _ (by simp)];exact World.cell?_alloc_at _ _ _ _ rfl)
  have h7:(((w.alloc (.cells #[.int .i64 7,.int .i64 id,.int .i64 0,.int .i64 a,.int .i64 0,.int .i64 note,.bool false,.slice A 0 c,.slice A2 0 c2] 44)).alloc (.cells #[.int .i64 id,.int .i64 a] 3))).cell? ⟨w.heap.size,7,none⟩=some (.slice A 0 c):=by first | exact World.cell?_alloc_at _ _ _ _ rfl | (rw [World.cell?_alloc_past _ _ _ (by simp)];exact World.cell?_alloc_at _ _ _ _ rfl)
  exact ⟨hW,by rw [hW.cell (by simp <;> omega)];exact h0,by rw [hW.cell (by simp <;> omega)];exact h7⟩
 clear hm hx hi hz0 hz1 hz2
 go_enter Tryd.func52,Tryd.ntmps52
 go_wp2_with fail
 generalize ((w.alloc (.cells #[.int .i64 7,.int .i64 id,.int .i64 0,.int .i64 a,.int .i64 0,.int .i64 note,.bool false,.slice A 0 c,.slice A2 0 c2] 44)).alloc (.cells #[.int .i64 id,.int .i64 a] 3))=w3 at *
 refine wp_region_noPanic ?_
 refine wp_region_held_drew (S:=(fun W=>Below w3.heap.size w3 W∧W.cell? ⟨w.heap.size,0,none⟩=some (.int .i64 7)∧W.cell? ⟨w.heap.size,7,none⟩=some (.slice A 0 c))) (by kernel_rfl) ?_ (fun hHeld=>?_)
 ·exact HS.out _ (Below.refl _ _).drew
 refine wpAnyH_take (i:=0) (v:=?_) rfl (by kernel_rfl) (by kernel_rfl) (by kernel_rfl) (fun _ _ _ h=>h) (Or.inl ⟨by rfl,?_⟩) (by assumption) ?_
 rotate_left
 ·intro w hSw;(try dsimp only at hSw);go_simp;try with_reducible rfl
 go_simp
 refine wpAnyH_take (i:=1) (v:=?_) rfl (by kernel_rfl) (by kernel_rfl) (by kernel_rfl) (fun _ _ _ h=>h) (Or.inl ⟨by rfl,?_⟩) (by assumption) ?_
 rotate_left
 ·intro w hSw;(try dsimp only at hSw);go_simp;try with_reducible rfl
 go_simp
 refine wpAnyH_take (i:=4) (v:=?_) rfl (by kernel_rfl) (by kernel_rfl) (by kernel_rfl) (fun _ _ _ h=>h) (Or.inl ⟨by rfl,?_⟩) (by assumption) ?_
 rotate_left
 ·intro w hSw;(try dsimp only at hSw);go_simp;try with_reducible rfl
 go_simp
 refine wpAnyH_take (i:=6) (v:=?_) rfl (by kernel_rfl) (by kernel_rfl) (by kernel_rfl) (fun _ _ _ h=>h) (Or.inl ⟨by rfl,?_⟩) (by assumption) ?_
 rotate_left
 ·intro w hSw;(try dsimp only at hSw);go_simp;try with_reducible rfl
 go_simp
 refine wpAnyH_take (i:=7) (v:=?_) rfl (by kernel_rfl) (by kernel_rfl) (by kernel_rfl) (fun _ _ _ h=>h) (Or.inl ⟨by rfl,?_⟩) (by assumption) ?_
 rotate_left
 ·intro w hSw;(try dsimp only at hSw);go_simp;try with_reducible rfl
 go_simp
 refine wpAnyH_ready (rs:=[2]) (by kernel_rfl) (by simp) ?_
 refine AllReadyH.cons rfl (fun K hK=>?_) AllReadyH.nil
 go_simp
 refine hK.out _ _ ?_ (fun hHeld=>?_)
 ·exact HS.out _ ((Below.refl _ _).drew.alloc (Nat.le_refl _) _)
 clear hK K
 go_simp
 refine wpAnyH_ready (rs:=[3]) (by kernel_rfl) (by simp) ?_
 refine AllReadyH.cons rfl (fun K hK=>?_) AllReadyH.nil
 go_simp
 refine (Rv.rPut_ok none 0 0 [] 0 [7] (w3.heap.size+1) (some ⟨w3.heap.size,0,none⟩) 1 _ (Rd.nil _ _ _) (Nat.zero_le _) (by simp [ones]) (Rd.drew (rd_new w3 #[.int .i64 7] _ _ _ _ _ rfl (by simp) rfl rfl)) (by simp) (by decide) (by decide) (by decide)).mono ?_
 rintro e w4 ⟨v4,rfl,ho4,hb4⟩
 rw [show 0+sumW [7]=1 by decide,List.nil_append] at ho4
 have HB4:Hid (Below w3.heap.size w3 w4):=((Below.refl _ _).alloc (Nat.le_refl _) _).drew.trans (hb4.mono (by simp))
 obtain ⟨A4,c4,rfl,_,_,_,hr4⟩:=own_form ho4
 rw [show 1 * 1=1 from rfl] at hr4
 have HP4:=Lib.hid hr4
 clear ho4 hb4 hr4
 refine hK.out _ _ ?_ (fun hHeld=>?_)
 ·exact HS.out _ HB4.out
 clear hK K
 go_simp
 refine wpAnyH_ready (rs:=[5]) (by kernel_rfl) (by simp) ?_
 refine AllReadyH.cons rfl (fun K hK=>?_) AllReadyH.nil
 go_simp
 refine (Rv.rPut_ok A4 1 c4 (encs [7]) w4.heap.size [id,a] w3.heap.size (some ⟨w.heap.size+1,0,none⟩) 2 w4 HP4.out (Nat.le_refl _) HE9.out (HL.out w4 HB4.out) HB4.out.size (by simp) HM.out (by have:=HSW.out;omega)).mono ?_
 rintro e w5 ⟨v5,rfl,ho5,hb5⟩
 have HB5:Hid (Below w3.heap.size w3 w5):=HB4.out.trans (hb5.mono HB4.out.size)
 have HO5:=Lib.hid (own_base ho5 HB4.out.size)
 clear hb5 ho5
 refine hK.out _ _ ?_ (fun hHeld=>?_)
 ·exact HS.out _ HB5.out
 clear hK K
 go_simp
 refine wpAnyH_ready (rs:=[8]) (by kernel_rfl) (by simp) ?_
 refine AllReadyH.cons rfl (fun K hK=>?_) AllReadyH.nil
 refine step_own rfl (.tmp 117) (.tmp 119) 24 rfl w3.heap.size 5 i0 (.int .u8 0) 1 1 Tryd.underlying24 HI.out.1 HI.out.2.1 HI.out.2.2.1 HI.out.2.2.2 rfl (by decide) v5 (1+sumW [id,a]) (encs [7] ++ encs [id,a]) (by simp [Act.eval,Act.put]) HO5.out w.heap.size A 0 c (bv data) (by simp [Act.eval,Act.put]) (by rw [Nat.mul_one];exact HX.out w5 HB5.out) (ones_bv _) (by have:=HSW.out;unfold maxLen;omega) (by have:=HSW.out;omega) HB5.out.size ?_
 intro v6 w6 ho6 hg6
 have HB6:Hid (Below w3.heap.size w3 w6):=HB5.out.grown hg6 HB5.out.size (fun g hg=>(HO5.out.lt g hg).1)
 have HO6:=Lib.hid (own_base ho6 HW.out.size)
 clear ho6 hg6
 refine hK.out _ _ ?_ (fun hHeld=>?_)
 ·exact HS.out _ HB6.out
 clear hK K
 go_simp
 refine wpAnyH_take (i:=9) (v:=?_) rfl (by kernel_rfl) (by kernel_rfl) (by kernel_rfl) (fun _ _ _ h=>h) (Or.inl ⟨by rfl,?_⟩) (by assumption) ?_
 rotate_left
 ·intro w hSw;(try dsimp only at hSw);go_simp;try with_reducible rfl
 go_simp
 refine wpAnyH_done (by kernel_rfl) ?_ _
 refine NoPanic.normal ?_
 go_wp2_with fail
 go_ret
 exact ⟨_,rfl,HO6.out,HW.out.trans (HB6.out.mono HW.out.size)⟩
theorem rlay_9 (id off a b note:Int) (fin:Bool) (data:List Nat) (A:Option Addr) (n c:Nat) (A2:Option Addr) (n2 c2:Nat) (w:World) (hm:allMay [(n:Int)]) (hx:Rd w w.heap.size A n (bv data)) (hn:n≤120) :
  Calls Tryd.prog 52 #[.agg #[.int .i64 9,.int .i64 0,.int .i64 0,.int .i64 0,.int .i64 0,.int .i64 note,.bool false,.slice A n c,.slice A2 0 c2]] w fun e w'=>∃ v',e=.returned v'∧w'.ownsRow w.heap.size 5 1 v' (1+sumW [(n:Int)]+n) (encs [9] ++ encs [(n:Int)] ++ bv data)∧Below w.heap.size w w':=by
 have HM:=Lib.hid hm
 have HE9:Hid (ones (encs [9])):=ones_encs _
 have HSW:Hid (sumW [(n:Int)]≤8 * 1):=sumW_le _
 obtain ⟨i0,hi,hz0,hz1,hz2⟩:=info_parts infoB
 have HI:=Lib.hid (And.intro hi (And.intro hz0 (And.intro hz1 hz2)))
 have HW:Hid (Below w.heap.size w ((w.alloc (.cells #[.int .i64 9,.int .i64 0,.int .i64 0,.int .i64 0,.int .i64 0,.int .i64 note,.bool false,.slice A n c,.slice A2 0 c2] 44)).alloc (.cells #[.int .i64 (n:Int)] 3))):=((Below.refl _ _).alloc (Nat.le_refl _) _).alloc (by simp) _
 have HX:Hid (∀ W,Below ((w.alloc (.cells #[.int .i64 9,.int .i64 0,.int .i64 0,.int .i64 0,.int .i64 0,.int .i64 note,.bool false,.slice A n c,.slice A2 0 c2] 44)).alloc (.cells #[.int .i64 (n:Int)] 3)).heap.size ((w.alloc (.cells #[.int .i64 9,.int .i64 0,.int .i64 0,.int .i64 0,.int .i64 0,.int .i64 note,.bool false,.slice A n c,.slice A2 0 c2] 44)).alloc (.cells #[.int .i64 (n:Int)] 3)) W→Rd W w.heap.size A n (bv data)):=fun W hW=>(hx.below HW.out (Nat.le_refl _)).below hW HW.out.size
 have HL:Hid (∀ W,Below ((w.alloc (.cells #[.int .i64 9,.int .i64 0,.int .i64 0,.int .i64 0,.int .i64 0,.int .i64 note,.bool false,.slice A n c,.slice A2 0 c2] 44)).alloc (.cells #[.int .i64 (n:Int)] 3)).heap.size ((w.alloc (.cells #[.int .i64 9,.int .i64 0,.int .i64 0,.int .i64 0,.int .i64 0,.int .i64 note,.bool false,.slice A n c,.slice A2 0 c2] 44)).alloc (.cells #[.int .i64 (n:Int)] 3)) W→Rd W ((w.alloc (.cells #[.int .i64 9,.int .i64 0,.int .i64 0,.int .i64 0,.int .i64 0,.int .i64 note,.bool false,.slice A n c,.slice A2 0 c2] 44)).alloc (.cells #[.int .i64 (n:Int)] 3)).heap.size (some ⟨w.heap.size+1,0,none⟩) 1 (ints [(n:Int)])):=fun W hW=>Rd.below (rd_new _ _ _ _ _ _ _ (by simp) (by simp) rfl rfl) hW (Nat.le_refl _)
 have HS:Hid (∀ W,Below ((w.alloc (.cells #[.int .i64 9,.int .i64 0,.int .i64 0,.int .i64 0,.int .i64 0,.int .i64 note,.bool false,.slice A n c,.slice A2 0 c2] 44)).alloc (.cells #[.int .i64 (n:Int)] 3)).heap.size ((w.alloc (.cells #[.int .i64 9,.int .i64 0,.int .i64 0,.int .i64 0,.int .i64 0,.int .i64 note,.bool false,.slice A n c,.slice A2 0 c2] 44)).alloc (.cells #[.int .i64 (n:Int)] 3)) W→Below ((w.alloc (.cells #[.int .i64 9,.int .i64 0,.int .i64 0,.int .i64 0,.int .i64 0,.int .i64 note,.bool false,.slice A n c,.slice A2 0 c2] 44)).alloc (.cells #[.int .i64 (n:Int)] 3)).heap.size ((w.alloc (.cells #[.int .i64 9,.int .i64 0,.int .i64 0,.int .i64 0,.int .i64 0,.int .i64 note,.bool false,.slice A n c,.slice A2 0 c2] 44)).alloc (.cells #[.int .i64 (n:Int)] 3)) W∧W.cell? ⟨w.heap.size,0,none⟩=some (.int .i64 9)∧W.cell? ⟨w.heap.size,7,none⟩=some (.slice A n c)):=by
  intro W hW
  have h0:(((w.alloc (.cells #[.int .i64 9,.int .i64 0,.int .i64 0,.int .i64 0,.int .i64 0,.int .i64 note,.bool false,.slice A n c,.slice A2 0 c2] 44)).alloc (.cells #[.int .i64 (n:Int)] 3))).cell? ⟨w.heap.size,0,none⟩=some (.int .i64 9):=by first | exact World.cell?_alloc_at _ _ _ _ rfl | (rw [World.cell?_alloc_past _ _ _ (by simp)];exact World.cell?_alloc_at _ _ _ _ rfl)
  have h7:(((w.alloc (.cells #[.int .i64 9,.int .i64 0,.int .i64 0,.int .i64 0,.int .i64 0,.int .i64 note,.bool false,.slice A n c,.slice A2 0 c2] 44)).alloc (.cells #[.int .i64 (n:Int)] 3))).cell? ⟨w.heap.size,7,none⟩=some (.slice A n c):=by first | exact World.cell?_alloc_at _ _ _ _ rfl | (rw [World.cell?_alloc_past _ _ _ (by simp)];exact World.cell?_alloc_at _ _ _ _ rfl)
  exact ⟨hW,by rw [hW.cell (by simp <;> omega)];exact h0,by rw [hW.cell (by simp <;> omega)];exact h7⟩
 clear hm hx hi hz0 hz1 hz2
 go_enter Tryd.func52,Tryd.ntmps52
 go_wp2_with fail
 generalize ((w.alloc (.cells #[.int .i64 9,.int .i64 0,.int .i64 0,.int .i64 0,.int .i64 0,.int .i64 note,.bool false,.slice A n c,.slice A2 0 c2] 44)).alloc (.cells #[.int .i64 (n:Int)] 3))=w3 at *
 refine wp_region_noPanic ?_
 refine wp_region_held_drew (S:=(fun W=>Below w3.heap.size w3 W∧W.cell? ⟨w.heap.size,0,none⟩=some (.int .i64 9)∧W.cell? ⟨w.heap.size,7,none⟩=some (.slice A n c))) (by kernel_rfl) ?_ (fun hHeld=>?_)
 ·exact HS.out _ (Below.refl _ _).drew
 refine wpAnyH_take (i:=0) (v:=?_) rfl (by kernel_rfl) (by kernel_rfl) (by kernel_rfl) (fun _ _ _ h=>h) (Or.inl ⟨by rfl,?_⟩) (by assumption) ?_
 rotate_left
 ·intro w hSw;(try dsimp only at hSw);go_simp;try with_reducible rfl
 go_simp
 refine wpAnyH_take (i:=1) (v:=?_) rfl (by kernel_rfl) (by kernel_rfl) (by kernel_rfl) (fun _ _ _ h=>h) (Or.inl ⟨by rfl,?_⟩) (by assumption) ?_
 rotate_left
 ·intro w hSw;(try dsimp only at hSw);go_simp;try with_reducible rfl
 go_simp
 refine wpAnyH_take (i:=4) (v:=?_) rfl (by kernel_rfl) (by kernel_rfl) (by kernel_rfl) (fun _ _ _ h=>h) (Or.inl ⟨by rfl,?_⟩) (by assumption) ?_
 rotate_left
 ·intro w hSw;(try dsimp only at hSw);go_simp;try with_reducible rfl
 go_simp
 refine wpAnyH_take (i:=6) (v:=?_) rfl (by kernel_rfl) (by kernel_rfl) (by kernel_rfl) (fun _ _ _ h=>h) (Or.inl ⟨by rfl,?_⟩) (by assumption) ?_
 rotate_left
 ·intro w hSw;(try dsimp only at hSw);go_simp;try with_reducible rfl
 go_simp
 refine wpAnyH_take (i:=7) (v:=?_) rfl (by kernel_rfl) (by kernel_rfl) (by kernel_rfl) (fun _ _ _ h=>h) (Or.inl ⟨by rfl,?_⟩) (by assumption) ?_
 rotate_left
 ·intro w hSw;(try dsimp only at hSw);go_simp;try with_reducible rfl
 go_simp
 refine wpAnyH_ready (rs:=[2]) (by kernel_rfl) (by simp) ?_
 refine AllReadyH.cons rfl (fun K hK=>?_) AllReadyH.nil
 go_simp
 refine hK.out _ _ ?_ (fun hHeld=>?_)
 ·exact HS.out _ ((Below.refl _ _).drew.alloc (Nat.le_refl _) _)
 clear hK K
 go_simp
 refine wpAnyH_ready (rs:=[3]) (by kernel_rfl) (by simp) ?_
 refine AllReadyH.cons rfl (fun K hK=>?_) AllReadyH.nil
 go_simp
 refine (Rv.rPut_ok none 0 0 [] 0 [9] (w3.heap.size+1) (some ⟨w3.heap.size,0,none⟩) 1 _ (Rd.nil _ _ _) (Nat.zero_le _) (by simp [ones]) (Rd.drew (rd_new w3 #[.int .i64 9] _ _ _ _ _ rfl (by simp) rfl rfl)) (by simp) (by decide) (by decide) (by decide)).mono ?_
 rintro e w4 ⟨v4,rfl,ho4,hb4⟩
 rw [show 0+sumW [9]=1 by decide,List.nil_append] at ho4
 have HB4:Hid (Below w3.heap.size w3 w4):=((Below.refl _ _).alloc (Nat.le_refl _) _).drew.trans (hb4.mono (by simp))
 obtain ⟨A4,c4,rfl,_,_,_,hr4⟩:=own_form ho4
 rw [show 1 * 1=1 from rfl] at hr4
 have HP4:=Lib.hid hr4
 clear ho4 hb4 hr4
 refine hK.out _ _ ?_ (fun hHeld=>?_)
 ·exact HS.out _ HB4.out
 clear hK K
 go_simp
 refine wpAnyH_ready (rs:=[5]) (by kernel_rfl) (by simp) ?_
 refine AllReadyH.cons rfl (fun K hK=>?_) AllReadyH.nil
 go_simp
 refine (Rv.rPut_ok A4 1 c4 (encs [9]) w4.heap.size [(n:Int)] w3.heap.size (some ⟨w.heap.size+1,0,none⟩) 1 w4 HP4.out (Nat.le_refl _) HE9.out (HL.out w4 HB4.out) HB4.out.size (by simp) HM.out (by have:=HSW.out;omega)).mono ?_
 rintro e w5 ⟨v5,rfl,ho5,hb5⟩
 have HB5:Hid (Below w3.heap.size w3 w5):=HB4.out.trans (hb5.mono HB4.out.size)
 have HO5:=Lib.hid (own_base ho5 HB4.out.size)
 clear hb5 ho5
 refine hK.out _ _ ?_ (fun hHeld=>?_)
 ·exact HS.out _ HB5.out
 clear hK K
 go_simp
 refine wpAnyH_ready (rs:=[8]) (by kernel_rfl) (by simp) ?_
 refine AllReadyH.cons rfl (fun K hK=>?_) AllReadyH.nil
 refine step_own rfl (.tmp 117) (.tmp 119) 24 rfl w3.heap.size 5 i0 (.int .u8 0) 1 1 Tryd.underlying24 HI.out.1 HI.out.2.1 HI.out.2.2.1 HI.out.2.2.2 rfl (by decide) v5 (1+sumW [(n:Int)]) (encs [9] ++ encs [(n:Int)]) (by simp [Act.eval,Act.put]) HO5.out w.heap.size A n c (bv data) (by simp [Act.eval,Act.put]) (by rw [Nat.mul_one];exact HX.out w5 HB5.out) (ones_bv _) (by have:=HSW.out;unfold maxLen;omega) (by have:=HSW.out;omega) HB5.out.size ?_
 intro v6 w6 ho6 hg6
 have HB6:Hid (Below w3.heap.size w3 w6):=HB5.out.grown hg6 HB5.out.size (fun g hg=>(HO5.out.lt g hg).1)
 have HO6:=Lib.hid (own_base ho6 HW.out.size)
 clear ho6 hg6
 refine hK.out _ _ ?_ (fun hHeld=>?_)
 ·exact HS.out _ HB6.out
 clear hK K
 go_simp
 refine wpAnyH_take (i:=9) (v:=?_) rfl (by kernel_rfl) (by kernel_rfl) (by kernel_rfl) (fun _ _ _ h=>h) (Or.inl ⟨by rfl,?_⟩) (by assumption) ?_
 rotate_left
 ·intro w hSw;(try dsimp only at hSw);go_simp;try with_reducible rfl
 go_simp
 refine wpAnyH_done (by kernel_rfl) ?_ _
 refine NoPanic.normal ?_
 go_wp2_with fail
 go_ret
 exact ⟨_,rfl,HO6.out,HW.out.trans (HB6.out.mono HW.out.size)⟩
theorem rlay_10 (id off a b note:Int) (fin:Bool) (data:List Nat) (A:Option Addr) (n c:Nat) (A2:Option Addr) (n2 c2:Nat) (w:World) (hm:allMay [id]) (hx:Rd w w.heap.size A 0 (bv data)) (hn:0≤120) :
  Calls Tryd.prog 52 #[.agg #[.int .i64 10,.int .i64 id,.int .i64 0,.int .i64 0,.int .i64 0,.int .i64 note,.bool false,.slice A 0 c,.slice A2 0 c2]] w fun e w'=>∃ v',e=.returned v'∧w'.ownsRow w.heap.size 5 1 v' (1+sumW [id]+0) (encs [10] ++ encs [id] ++ bv data)∧Below w.heap.size w w':=by
 have HM:=Lib.hid hm
 have HE9:Hid (ones (encs [10])):=ones_encs _
 have HSW:Hid (sumW [id]≤8 * 1):=sumW_le _
 obtain ⟨i0,hi,hz0,hz1,hz2⟩:=info_parts infoB
 have HI:=Lib.hid (And.intro hi (And.intro hz0 (And.intro hz1 hz2)))
 have HW:Hid (Below w.heap.size w ((w.alloc (.cells #[.int .i64 10,.int .i64 id,.int .i64 0,.int .i64 0,.int .i64 0,.int .i64 note,.bool false,.slice A 0 c,.slice A2 0 c2] 44)).alloc (.cells #[.int .i64 id] 3))):=((Below.refl _ _).alloc (Nat.le_refl _) _).alloc (by simp) _
 have HX:Hid (∀ W,Below ((w.alloc (.cells #[.int .i64 10,.int .i64 id,.int .i64 0,.int .i64 0,.int .i64 0,.int .i64 note,.bool false,.slice A 0 c,.slice A2 0 c2] 44)).alloc (.cells #[.int .i64 id] 3)).heap.size ((w.alloc (.cells #[.int .i64 10,.int .i64 id,.int .i64 0,.int .i64 0,.int .i64 0,.int .i64 note,.bool false,.slice A 0 c,.slice A2 0 c2] 44)).alloc (.cells #[.int .i64 id] 3)) W→Rd W w.heap.size A 0 (bv data)):=fun W hW=>(hx.below HW.out (Nat.le_refl _)).below hW HW.out.size
 have HL:Hid (∀ W,Below ((w.alloc (.cells #[.int .i64 10,.int .i64 id,.int .i64 0,.int .i64 0,.int .i64 0,.int .i64 note,.bool false,.slice A 0 c,.slice A2 0 c2] 44)).alloc (.cells #[.int .i64 id] 3)).heap.size ((w.alloc (.cells #[.int .i64 10,.int .i64 id,.int .i64 0,.int .i64 0,.int .i64 0,.int .i64 note,.bool false,.slice A 0 c,.slice A2 0 c2] 44)).alloc (.cells #[.int .i64 id] 3)) W→Rd W ((w.alloc (.cells #[.int .i64 10,.int .i64 id,.int .i64 0,.int .i64 0,.int .i64 0,.int .i64 note,.bool false,.slice A 0 c,.slice A2 0 c2] 44)).alloc (.cells #[.int .i64 id] 3)).heap.size (some ⟨w.heap.size+1,0,none⟩) 1 (ints [id])):=fun W hW=>Rd.below (rd_new _ _ _ _ _ _ _ (by simp) (by simp) rfl rfl) hW (Nat.le_refl _)
 have HS:Hid (∀ W,Below ((w.alloc (.cells #[.int .i64 10,.int .i64 id,.int .i64 0,.int .i64 0,.int .i64 0,.int .i64 note,.bool false,.slice A 0 c,.slice A2 0 c2] 44)).alloc (.cells #[.int .i64 id] 3)).heap.size ((w.alloc (.cells #[.int .i64 10,.int .i64 id,.int .i64 0,.int .i64 0,.int .i64 0,.int .i64 note,.bool false,.slice A 0 c,.slice A2 0 c2] 44)).alloc (.cells #[.int .i64 id] 3)) W→Below ((w.alloc (.cells #[.int .i64 10,.int .i64 id,.int .i64 0,.int .i64 0,.int .i64 0,.int .i64 note,.bool false,.slice A 0 c,.slice A2 0 c2] 44)).alloc (.cells #[.int .i64 id] 3)).heap.size ((w.alloc (.cells #[.int .i64 10,.int .i64 id,.int .i64 0,.int .i64 0,.int .i64 0,.int .i64 note,.bool false,.slice A 0 c,.slice A2 0 c2] 44)).alloc (.cells #[.int .i64 id] 3)) W∧W.cell? ⟨w.heap.size,0,none⟩=some (.int .i64 10)∧W.cell? ⟨w.heap.size,7,none⟩=some (.slice A 0 c)):=by
  intro W hW
  have h0:(((w.alloc (.cells #[.int .i64 10,.int .i64 id,.int .i64 0,.int .i64 0,.int .i64 0,.int .i64 note,.bool false,.slice A 0 c,.slice A2 0 c2] 44)).alloc (.cells #[.int .i64 id] 3))).cell? ⟨w.heap.size,0,none⟩=some (.int .i64 10):=by first | exact World.cell?_alloc_at _ _ _ _ rfl | (rw [World.cell?_alloc_past _ _ _ (by simp)];exact World.cell?_alloc_at _ _ _ _ rfl)
  have h7:(((w.alloc (.cells #[.int .i64 10,.int .i64 id,.int .i64 0,.int .i64 0,.int .i64 0,.int .i64 note,.bool false,.slice A 0 c,.slice A2 0 c2] 44)).alloc (.cells #[.int .i64 id] 3))).cell? ⟨w.heap.size,7,none⟩=some (.slice A 0 c):=by first | exact World.cell?_alloc_at _ _ _ _ rfl | (rw [World.cell?_alloc_past _ _ _ (by simp)];exact World.cell?_alloc_at _ _ _ _ rfl)
  exact ⟨hW,by rw [hW.cell (by simp <;> omega)];exact h0,by rw [hW.cell (by simp <;> omega)];exact h7⟩
 clear hm hx hi hz0 hz1 hz2
 go_enter Tryd.func52,Tryd.ntmps52
 go_wp2_with fail
 generalize ((w.alloc (.cells #[.int .i64 10,.int .i64 id,.int .i64 0,.int .i64 0,.int .i64 0,.int .i64 note,.bool false,.slice A 0 c,.slice A2 0 c2] 44)).alloc (.cells #[.int .i64 id] 3))=w3 at *
 refine wp_region_noPanic ?_
 refine wp_region_held_drew (S:=(fun W=>Below w3.heap.size w3 W∧W.cell? ⟨w.heap.size,0,none⟩=some (.int .i64 10)∧W.cell? ⟨w.heap.size,7,none⟩=some (.slice A 0 c))) (by kernel_rfl) ?_ (fun hHeld=>?_)
 ·exact HS.out _ (Below.refl _ _).drew
 refine wpAnyH_take (i:=0) (v:=?_) rfl (by kernel_rfl) (by kernel_rfl) (by kernel_rfl) (fun _ _ _ h=>h) (Or.inl ⟨by rfl,?_⟩) (by assumption) ?_
 rotate_left
 ·intro w hSw;(try dsimp only at hSw);go_simp;try with_reducible rfl
 go_simp
 refine wpAnyH_take (i:=1) (v:=?_) rfl (by kernel_rfl) (by kernel_rfl) (by kernel_rfl) (fun _ _ _ h=>h) (Or.inl ⟨by rfl,?_⟩) (by assumption) ?_
 rotate_left
 ·intro w hSw;(try dsimp only at hSw);go_simp;try with_reducible rfl
 go_simp
 refine wpAnyH_take (i:=4) (v:=?_) rfl (by kernel_rfl) (by kernel_rfl) (by kernel_rfl) (fun _ _ _ h=>h) (Or.inl ⟨by rfl,?_⟩) (by assumption) ?_
 rotate_left
 ·intro w hSw;(try dsimp only at hSw);go_simp;try with_reducible rfl
 go_simp
 refine wpAnyH_take (i:=6) (v:=?_) rfl (by kernel_rfl) (by kernel_rfl) (by kernel_rfl) (fun _ _ _ h=>h) (Or.inl ⟨by rfl,?_⟩) (by assumption) ?_
 rotate_left
 ·intro w hSw;(try dsimp only at hSw);go_simp;try with_reducible rfl
 go_simp
 refine wpAnyH_take (i:=7) (v:=?_) rfl (by kernel_rfl) (by kernel_rfl) (by kernel_rfl) (fun _ _ _ h=>h) (Or.inl ⟨by rfl,?_⟩) (by assumption) ?_
 rotate_left
 ·intro w hSw;(try dsimp only at hSw);go_simp;try with_reducible rfl
 go_simp
 refine wpAnyH_ready (rs:=[2]) (by kernel_rfl) (by simp) ?_
 refine AllReadyH.cons rfl (fun K hK=>?_) AllReadyH.nil
 go_simp
 refine hK.out _ _ ?_ (fun hHeld=>?_)
 ·exact HS.out _ ((Below.refl _ _).drew.alloc (Nat.le_refl _) _)
 clear hK K
 go_simp
 refine wpAnyH_ready (rs:=[3]) (by kernel_rfl) (by simp) ?_
 refine AllReadyH.cons rfl (fun K hK=>?_) AllReadyH.nil
 go_simp
 refine (Rv.rPut_ok none 0 0 [] 0 [10] (w3.heap.size+1) (some ⟨w3.heap.size,0,none⟩) 1 _ (Rd.nil _ _ _) (Nat.zero_le _) (by simp [ones]) (Rd.drew (rd_new w3 #[.int .i64 10] _ _ _ _ _ rfl (by simp) rfl rfl)) (by simp) (by decide) (by decide) (by decide)).mono ?_
 rintro e w4 ⟨v4,rfl,ho4,hb4⟩
 rw [show 0+sumW [10]=1 by decide,List.nil_append] at ho4
 have HB4:Hid (Below w3.heap.size w3 w4):=((Below.refl _ _).alloc (Nat.le_refl _) _).drew.trans (hb4.mono (by simp))
 obtain ⟨A4,c4,rfl,_,_,_,hr4⟩:=own_form ho4
 rw [show 1 * 1=1 from rfl] at hr4
 have HP4:=Lib.hid hr4
 clear ho4 hb4 hr4
 refine hK.out _ _ ?_ (fun hHeld=>?_)
 ·exact HS.out _ HB4.out
 clear hK K
 go_simp
 refine wpAnyH_ready (rs:=[5]) (by kernel_rfl) (by simp) ?_
 refine AllReadyH.cons rfl (fun K hK=>?_) AllReadyH.nil
 go_simp
 refine (Rv.rPut_ok A4 1 c4 (encs [10]) w4.heap.size [id] w3.heap.size (some ⟨w.heap.size+1,0,none⟩) 1 w4 HP4.out (Nat.le_refl _) HE9.out (HL.out w4 HB4.out) HB4.out.size (by simp) HM.out (by have:=HSW.out;omega)).mono ?_
 rintro e w5 ⟨v5,rfl,ho5,hb5⟩
 have HB5:Hid (Below w3.heap.size w3 w5):=HB4.out.trans (hb5.mono HB4.out.size)
 have HO5:=Lib.hid (own_base ho5 HB4.out.size)
 clear hb5 ho5
 refine hK.out _ _ ?_ (fun hHeld=>?_)
 ·exact HS.out _ HB5.out
 clear hK K
 go_simp
 refine wpAnyH_ready (rs:=[8]) (by kernel_rfl) (by simp) ?_
 refine AllReadyH.cons rfl (fun K hK=>?_) AllReadyH.nil
 refine step_own rfl (.tmp 117) (.tmp 119) 24 rfl w3.heap.size 5 i0 (.int .u8 0) 1 1 Tryd.underlying24 HI.out.1 HI.out.2.1 HI.out.2.2.1 HI.out.2.2.2 rfl (by decide) v5 (1+sumW [id]) (encs [10] ++ encs [id]) (by simp [Act.eval,Act.put]) HO5.out w.heap.size A 0 c (bv data) (by simp [Act.eval,Act.put]) (by rw [Nat.mul_one];exact HX.out w5 HB5.out) (ones_bv _) (by have:=HSW.out;unfold maxLen;omega) (by have:=HSW.out;omega) HB5.out.size ?_
 intro v6 w6 ho6 hg6
 have HB6:Hid (Below w3.heap.size w3 w6):=HB5.out.grown hg6 HB5.out.size (fun g hg=>(HO5.out.lt g hg).1)
 have HO6:=Lib.hid (own_base ho6 HW.out.size)
 clear ho6 hg6
 refine hK.out _ _ ?_ (fun hHeld=>?_)
 ·exact HS.out _ HB6.out
 clear hK K
 go_simp
 refine wpAnyH_take (i:=9) (v:=?_) rfl (by kernel_rfl) (by kernel_rfl) (by kernel_rfl) (fun _ _ _ h=>h) (Or.inl ⟨by rfl,?_⟩) (by assumption) ?_
 rotate_left
 ·intro w hSw;(try dsimp only at hSw);go_simp;try with_reducible rfl
 go_simp
 refine wpAnyH_done (by kernel_rfl) ?_ _
 refine NoPanic.normal ?_
 go_wp2_with fail
 go_ret
 exact ⟨_,rfl,HO6.out,HW.out.trans (HB6.out.mono HW.out.size)⟩
theorem rlay_11 (id off a b note:Int) (fin:Bool) (data:List Nat) (A:Option Addr) (n c:Nat) (A2:Option Addr) (n2 c2:Nat) (w:World) (hm:allMay [id]) (hx:Rd w w.heap.size A 0 (bv data)) (hn:0≤120) :
  Calls Tryd.prog 52 #[.agg #[.int .i64 11,.int .i64 id,.int .i64 0,.int .i64 0,.int .i64 0,.int .i64 note,.bool false,.slice A 0 c,.slice A2 0 c2]] w fun e w'=>∃ v',e=.returned v'∧w'.ownsRow w.heap.size 5 1 v' (1+sumW [id]+0) (encs [11] ++ encs [id] ++ bv data)∧Below w.heap.size w w':=by
 have HM:=Lib.hid hm
 have HE9:Hid (ones (encs [11])):=ones_encs _
 have HSW:Hid (sumW [id]≤8 * 1):=sumW_le _
 obtain ⟨i0,hi,hz0,hz1,hz2⟩:=info_parts infoB
 have HI:=Lib.hid (And.intro hi (And.intro hz0 (And.intro hz1 hz2)))
 have HW:Hid (Below w.heap.size w ((w.alloc (.cells #[.int .i64 11,.int .i64 id,.int .i64 0,.int .i64 0,.int .i64 0,.int .i64 note,.bool false,.slice A 0 c,.slice A2 0 c2] 44)).alloc (.cells #[.int .i64 id] 3))):=((Below.refl _ _).alloc (Nat.le_refl _) _).alloc (by simp) _
 have HX:Hid (∀ W,Below ((w.alloc (.cells #[.int .i64 11,.int .i64 id,.int .i64 0,.int .i64 0,.int .i64 0,.int .i64 note,.bool false,.slice A 0 c,.slice A2 0 c2] 44)).alloc (.cells #[.int .i64 id] 3)).heap.size ((w.alloc (.cells #[.int .i64 11,.int .i64 id,.int .i64 0,.int .i64 0,.int .i64 0,.int .i64 note,.bool false,.slice A 0 c,.slice A2 0 c2] 44)).alloc (.cells #[.int .i64 id] 3)) W→Rd W w.heap.size A 0 (bv data)):=fun W hW=>(hx.below HW.out (Nat.le_refl _)).below hW HW.out.size
 have HL:Hid (∀ W,Below ((w.alloc (.cells #[.int .i64 11,.int .i64 id,.int .i64 0,.int .i64 0,.int .i64 0,.int .i64 note,.bool false,.slice A 0 c,.slice A2 0 c2] 44)).alloc (.cells #[.int .i64 id] 3)).heap.size ((w.alloc (.cells #[.int .i64 11,.int .i64 id,.int .i64 0,.int .i64 0,.int .i64 0,.int .i64 note,.bool false,.slice A 0 c,.slice A2 0 c2] 44)).alloc (.cells #[.int .i64 id] 3)) W→Rd W ((w.alloc (.cells #[.int .i64 11,.int .i64 id,.int .i64 0,.int .i64 0,.int .i64 0,.int .i64 note,.bool false,.slice A 0 c,.slice A2 0 c2] 44)).alloc (.cells #[.int .i64 id] 3)).heap.size (some ⟨w.heap.size+1,0,none⟩) 1 (ints [id])):=fun W hW=>Rd.below (rd_new _ _ _ _ _ _ _ (by simp) (by simp) rfl rfl) hW (Nat.le_refl _)
 have HS:Hid (∀ W,Below ((w.alloc (.cells #[.int .i64 11,.int .i64 id,.int .i64 0,.int .i64 0,.int .i64 0,.int .i64 note,.bool false,.slice A 0 c,.slice A2 0 c2] 44)).alloc (.cells #[.int .i64 id] 3)).heap.size ((w.alloc (.cells #[.int .i64 11,.int .i64 id,.int .i64 0,.int .i64 0,.int .i64 0,.int .i64 note,.bool false,.slice A 0 c,.slice A2 0 c2] 44)).alloc (.cells #[.int .i64 id] 3)) W→Below ((w.alloc (.cells #[.int .i64 11,.int .i64 id,.int .i64 0,.int .i64 0,.int .i64 0,.int .i64 note,.bool false,.slice A 0 c,.slice A2 0 c2] 44)).alloc (.cells #[.int .i64 id] 3)).heap.size ((w.alloc (.cells #[.int .i64 11,.int .i64 id,.int .i64 0,.int .i64 0,.int .i64 0,.int .i64 note,.bool false,.slice A 0 c,.slice A2 0 c2] 44)).alloc (.cells #[.int .i64 id] 3)) W∧W.cell? ⟨w.heap.size,0,none⟩=some (.int .i64 11)∧W.cell? ⟨w.heap.size,7,none⟩=some (.slice A 0 c)):=by
  intro W hW
  have h0:(((w.alloc (.cells #[.int .i64 11,.int .i64 id,.int .i64 0,.int .i64 0,.int .i64 0,.int .i64 note,.bool false,.slice A 0 c,.slice A2 0 c2] 44)).alloc (.cells #[.int .i64 id] 3))).cell? ⟨w.heap.size,0,none⟩=some (.int .i64 11):=by first | exact World.cell?_alloc_at _ _ _ _ rfl | (rw [World.cell?_alloc_past _ _ _ (by simp)];exact World.cell?_alloc_at _ _ _ _ rfl)
  have h7:(((w.alloc (.cells #[.int .i64 11,.int .i64 id,.int .i64 0,.int .i64 0,.int .i64 0,.int .i64 note,.bool false,.slice A 0 c,.slice A2 0 c2] 44)).alloc (.cells #[.int .i64 id] 3))).cell? ⟨w.heap.size,7,none⟩=some (.slice A 0 c):=by first | exact World.cell?_alloc_at _ _ _ _ rfl | (rw [World.cell?_alloc_past _ _ _ (by simp)];exact World.cell?_alloc_at _ _ _ _ rfl)
  exact ⟨hW,by rw [hW.cell (by simp <;> omega)];exact h0,by rw [hW.cell (by simp <;> omega)];exact h7⟩
 clear hm hx hi hz0 hz1 hz2
 go_enter Tryd.func52,Tryd.ntmps52
 go_wp2_with fail
 generalize ((w.alloc (.cells #[.int .i64 11,.int .i64 id,.int .i64 0,.int .i64 0,.int .i64 0,.int .i64 note,.bool false,.slice A 0 c,.slice A2 0 c2] 44)).alloc (.cells #[.int .i64 id] 3))=w3 at *
 refine wp_region_noPanic ?_
 refine wp_region_held_drew (S:=(fun W=>Below w3.heap.size w3 W∧W.cell? ⟨w.heap.size,0,none⟩=some (.int .i64 11)∧W.cell? ⟨w.heap.size,7,none⟩=some (.slice A 0 c))) (by kernel_rfl) ?_ (fun hHeld=>?_)
 ·exact HS.out _ (Below.refl _ _).drew
 refine wpAnyH_take (i:=0) (v:=?_) rfl (by kernel_rfl) (by kernel_rfl) (by kernel_rfl) (fun _ _ _ h=>h) (Or.inl ⟨by rfl,?_⟩) (by assumption) ?_
 rotate_left
 ·intro w hSw;(try dsimp only at hSw);go_simp;try with_reducible rfl
 go_simp
 refine wpAnyH_take (i:=1) (v:=?_) rfl (by kernel_rfl) (by kernel_rfl) (by kernel_rfl) (fun _ _ _ h=>h) (Or.inl ⟨by rfl,?_⟩) (by assumption) ?_
 rotate_left
 ·intro w hSw;(try dsimp only at hSw);go_simp;try with_reducible rfl
 go_simp
 refine wpAnyH_take (i:=4) (v:=?_) rfl (by kernel_rfl) (by kernel_rfl) (by kernel_rfl) (fun _ _ _ h=>h) (Or.inl ⟨by rfl,?_⟩) (by assumption) ?_
 rotate_left
 ·intro w hSw;(try dsimp only at hSw);go_simp;try with_reducible rfl
 go_simp
 refine wpAnyH_take (i:=6) (v:=?_) rfl (by kernel_rfl) (by kernel_rfl) (by kernel_rfl) (fun _ _ _ h=>h) (Or.inl ⟨by rfl,?_⟩) (by assumption) ?_
 rotate_left
 ·intro w hSw;(try dsimp only at hSw);go_simp;try with_reducible rfl
 go_simp
 refine wpAnyH_take (i:=7) (v:=?_) rfl (by kernel_rfl) (by kernel_rfl) (by kernel_rfl) (fun _ _ _ h=>h) (Or.inl ⟨by rfl,?_⟩) (by assumption) ?_
 rotate_left
 ·intro w hSw;(try dsimp only at hSw);go_simp;try with_reducible rfl
 go_simp
 refine wpAnyH_ready (rs:=[2]) (by kernel_rfl) (by simp) ?_
 refine AllReadyH.cons rfl (fun K hK=>?_) AllReadyH.nil
 go_simp
 refine hK.out _ _ ?_ (fun hHeld=>?_)
 ·exact HS.out _ ((Below.refl _ _).drew.alloc (Nat.le_refl _) _)
 clear hK K
 go_simp
 refine wpAnyH_ready (rs:=[3]) (by kernel_rfl) (by simp) ?_
 refine AllReadyH.cons rfl (fun K hK=>?_) AllReadyH.nil
 go_simp
 refine (Rv.rPut_ok none 0 0 [] 0 [11] (w3.heap.size+1) (some ⟨w3.heap.size,0,none⟩) 1 _ (Rd.nil _ _ _) (Nat.zero_le _) (by simp [ones]) (Rd.drew (rd_new w3 #[.int .i64 11] _ _ _ _ _ rfl (by simp) rfl rfl)) (by simp) (by decide) (by decide) (by decide)).mono ?_
 rintro e w4 ⟨v4,rfl,ho4,hb4⟩
 rw [show 0+sumW [11]=1 by decide,List.nil_append] at ho4
 have HB4:Hid (Below w3.heap.size w3 w4):=((Below.refl _ _).alloc (Nat.le_refl _) _).drew.trans (hb4.mono (by simp))
 obtain ⟨A4,c4,rfl,_,_,_,hr4⟩:=own_form ho4
 rw [show 1 * 1=1 from rfl] at hr4
 have HP4:=Lib.hid hr4
 clear ho4 hb4 hr4
 refine hK.out _ _ ?_ (fun hHeld=>?_)
 ·exact HS.out _ HB4.out
 clear hK K
 go_simp
 refine wpAnyH_ready (rs:=[5]) (by kernel_rfl) (by simp) ?_
 refine AllReadyH.cons rfl (fun K hK=>?_) AllReadyH.nil
 go_simp
 refine (Rv.rPut_ok A4 1 c4 (encs [11]) w4.heap.size [id] w3.heap.size (some ⟨w.heap.size+1,0,none⟩) 1 w4 HP4.out (Nat.le_refl _) HE9.out (HL.out w4 HB4.out) HB4.out.size (by simp) HM.out (by have:=HSW.out;omega)).mono ?_
 rintro e w5 ⟨v5,rfl,ho5,hb5⟩
 have HB5:Hid (Below w3.heap.size w3 w5):=HB4.out.trans (hb5.mono HB4.out.size)
 have HO5:=Lib.hid (own_base ho5 HB4.out.size)
 clear hb5 ho5
 refine hK.out _ _ ?_ (fun hHeld=>?_)
 ·exact HS.out _ HB5.out
 clear hK K
 go_simp
 refine wpAnyH_ready (rs:=[8]) (by kernel_rfl) (by simp) ?_
 refine AllReadyH.cons rfl (fun K hK=>?_) AllReadyH.nil
 refine step_own rfl (.tmp 117) (.tmp 119) 24 rfl w3.heap.size 5 i0 (.int .u8 0) 1 1 Tryd.underlying24 HI.out.1 HI.out.2.1 HI.out.2.2.1 HI.out.2.2.2 rfl (by decide) v5 (1+sumW [id]) (encs [11] ++ encs [id]) (by simp [Act.eval,Act.put]) HO5.out w.heap.size A 0 c (bv data) (by simp [Act.eval,Act.put]) (by rw [Nat.mul_one];exact HX.out w5 HB5.out) (ones_bv _) (by have:=HSW.out;unfold maxLen;omega) (by have:=HSW.out;omega) HB5.out.size ?_
 intro v6 w6 ho6 hg6
 have HB6:Hid (Below w3.heap.size w3 w6):=HB5.out.grown hg6 HB5.out.size (fun g hg=>(HO5.out.lt g hg).1)
 have HO6:=Lib.hid (own_base ho6 HW.out.size)
 clear ho6 hg6
 refine hK.out _ _ ?_ (fun hHeld=>?_)
 ·exact HS.out _ HB6.out
 clear hK K
 go_simp
 refine wpAnyH_take (i:=9) (v:=?_) rfl (by kernel_rfl) (by kernel_rfl) (by kernel_rfl) (fun _ _ _ h=>h) (Or.inl ⟨by rfl,?_⟩) (by assumption) ?_
 rotate_left
 ·intro w hSw;(try dsimp only at hSw);go_simp;try with_reducible rfl
 go_simp
 refine wpAnyH_done (by kernel_rfl) ?_ _
 refine NoPanic.normal ?_
 go_wp2_with fail
 go_ret
 exact ⟨_,rfl,HO6.out,HW.out.trans (HB6.out.mono HW.out.size)⟩
theorem rlay_12 (id off a b note:Int) (fin:Bool) (data:List Nat) (A:Option Addr) (n c:Nat) (A2:Option Addr) (n2 c2:Nat) (w:World) (hm:allMay [a]) (hx:Rd w w.heap.size A 0 (bv data)) (hn:0≤120) :
  Calls Tryd.prog 52 #[.agg #[.int .i64 12,.int .i64 0,.int .i64 0,.int .i64 a,.int .i64 0,.int .i64 note,.bool false,.slice A 0 c,.slice A2 0 c2]] w fun e w'=>∃ v',e=.returned v'∧w'.ownsRow w.heap.size 5 1 v' (1+sumW [a]+0) (encs [12] ++ encs [a] ++ bv data)∧Below w.heap.size w w':=by
 have HM:=Lib.hid hm
 have HE9:Hid (ones (encs [12])):=ones_encs _
 have HSW:Hid (sumW [a]≤8 * 1):=sumW_le _
 obtain ⟨i0,hi,hz0,hz1,hz2⟩:=info_parts infoB
 have HI:=Lib.hid (And.intro hi (And.intro hz0 (And.intro hz1 hz2)))
 have HW:Hid (Below w.heap.size w ((w.alloc (.cells #[.int .i64 12,.int .i64 0,.int .i64 0,.int .i64 a,.int .i64 0,.int .i64 note,.bool false,.slice A 0 c,.slice A2 0 c2] 44)).alloc (.cells #[.int .i64 a] 3))):=((Below.refl _ _).alloc (Nat.le_refl _) _).alloc (by simp) _
 have HX:Hid (∀ W,Below ((w.alloc (.cells #[.int .i64 12,.int .i64 0,.int .i64 0,.int .i64 a,.int .i64 0,.int .i64 note,.bool false,.slice A 0 c,.slice A2 0 c2] 44)).alloc (.cells #[.int .i64 a] 3)).heap.size ((w.alloc (.cells #[.int .i64 12,.int .i64 0,.int .i64 0,.int .i64 a,.int .i64 0,.int .i64 note,.bool false,.slice A 0 c,.slice A2 0 c2] 44)).alloc (.cells #[.int .i64 a] 3)) W→Rd W w.heap.size A 0 (bv data)):=fun W hW=>(hx.below HW.out (Nat.le_refl _)).below hW HW.out.size
 have HL:Hid (∀ W,Below ((w.alloc (.cells #[.int .i64 12,.int .i64 0,.int .i64 0,.int .i64 a,.int .i64 0,.int .i64 note,.bool false,.slice A 0 c,.slice A2 0 c2] 44)).alloc (.cells #[.int .i64 a] 3)).heap.size ((w.alloc (.cells #[.int .i64 12,.int .i64 0,.int .i64 0,.int .i64 a,.int .i64 0,.int .i64 note,.bool false,.slice A 0 c,.slice A2 0 c2] 44)).alloc (.cells #[.int .i64 a] 3)) W→Rd W ((w.alloc (.cells #[.int .i64 12,.int .i64 0,.int .i64 0,.int .i64 a,.int .i64 0,.int .i64 note,.bool false,.slice A 0 c,.slice A2 0 c2] 44)).alloc (.cells #[.int .i64 a] 3)).heap.size (some ⟨w.heap.size+1,0,none⟩) 1 (ints [a])):=fun W hW=>Rd.below (rd_new _ _ _ _ _ _ _ (by simp) (by simp) rfl rfl) hW (Nat.le_refl _)
 have HS:Hid (∀ W,Below ((w.alloc (.cells #[.int .i64 12,.int .i64 0,.int .i64 0,.int .i64 a,.int .i64 0,.int .i64 note,.bool false,.slice A 0 c,.slice A2 0 c2] 44)).alloc (.cells #[.int .i64 a] 3)).heap.size ((w.alloc (.cells #[.int .i64 12,.int .i64 0,.int .i64 0,.int .i64 a,.int .i64 0,.int .i64 note,.bool false,.slice A 0 c,.slice A2 0 c2] 44)).alloc (.cells #[.int .i64 a] 3)) W→Below ((w.alloc (.cells #[.int .i64 12,.int .i64 0,.int .i64 0,.int .i64 a,.int .i64 0,.int .i64 note,.bool false,.slice A 0 c,.slice A2 0 c2] 44)).alloc (.cells #[.int .i64 a] 3)).heap.size ((w.alloc (.cells #[.int .i64 12,.int .i64 0,.int .i64 0,.int .i64 a,.int .i64 0,.int .i64 note,.bool false,.slice A 0 c,.slice A2 0 c2] 44)).alloc (.cells #[.int .i64 a] 3)) W∧W.cell? ⟨w.heap.size,0,none⟩=some (.int .i64 12)∧W.cell? ⟨w.heap.size,7,none⟩=some (.slice A 0 c)):=by
  intro W hW
  have h0:(((w.alloc (.cells #[.int .i64 12,.int .i64 0,.int .i64 0,.int .i64 a,.int .i64 0,.int .i64 note,.bool false,.slice A 0 c,.slice A2 0 c2] 44)).alloc (.cells #[.int .i64 a] 3))).cell? ⟨w.heap.size,0,none⟩=some (.int .i64 12):=by first | exact World.cell?_alloc_at _ _ _ _ rfl | (rw [World.cell?_alloc_past _ _ _ (by simp)];exact World.cell?_alloc_at _ _ _ _ rfl)
  have h7:(((w.alloc (.cells #[.int .i64 12,.int .i64 0,.int .i64 0,.int .i64 a,.int .i64 0,.int .i64 note,.bool false,.slice A 0 c,.slice A2 0 c2] 44)).alloc (.cells #[.int .i64 a] 3))).cell? ⟨w.heap.size,7,none⟩=some (.slice A 0 c):=by first | exact World.cell?_alloc_at _ _ _ _ rfl | (rw [World.cell?_alloc_past _ _ _ (by simp)];exact World.cell?_alloc_at _ _ _ _ rfl)
  exact ⟨hW,by rw [hW.cell (by simp <;> omega)];exact h0,by rw [hW.cell (by simp <;> omega)];exact h7⟩
 clear hm hx hi hz0 hz1 hz2
 go_enter Tryd.func52,Tryd.ntmps52
 go_wp2_with fail
 generalize ((w.alloc (.cells #[.int .i64 12,.int .i64 0,.int .i64 0,.int .i64 a,.int .i64 0,.int .i64 note,.bool false,.slice A 0 c,.slice A2 0 c2] 44)).alloc (.cells #[.int .i64 a] 3))=w3 at *
 refine wp_region_noPanic ?_
 refine wp_region_held_drew (S:=(fun W=>Below w3.heap.size w3 W∧W.cell? ⟨w.heap.size,0,none⟩=some (.int .i64 12)∧W.cell? ⟨w.heap.size,7,none⟩=some (.slice A 0 c))) (by kernel_rfl) ?_ (fun hHeld=>?_)
 ·exact HS.out _ (Below.refl _ _).drew
 refine wpAnyH_take (i:=0) (v:=?_) rfl (by kernel_rfl) (by kernel_rfl) (by kernel_rfl) (fun _ _ _ h=>h) (Or.inl ⟨by rfl,?_⟩) (by assumption) ?_
 rotate_left
 ·intro w hSw;(try dsimp only at hSw);go_simp;try with_reducible rfl
 go_simp
 refine wpAnyH_take (i:=1) (v:=?_) rfl (by kernel_rfl) (by kernel_rfl) (by kernel_rfl) (fun _ _ _ h=>h) (Or.inl ⟨by rfl,?_⟩) (by assumption) ?_
 rotate_left
 ·intro w hSw;(try dsimp only at hSw);go_simp;try with_reducible rfl
 go_simp
 refine wpAnyH_take (i:=4) (v:=?_) rfl (by kernel_rfl) (by kernel_rfl) (by kernel_rfl) (fun _ _ _ h=>h) (Or.inl ⟨by rfl,?_⟩) (by assumption) ?_
 rotate_left
 ·intro w hSw;(try dsimp only at hSw);go_simp;try with_reducible rfl
 go_simp
 refine wpAnyH_take (i:=6) (v:=?_) rfl (by kernel_rfl) (by kernel_rfl) (by kernel_rfl) (fun _ _ _ h=>h) (Or.inl ⟨by rfl,?_⟩) (by assumption) ?_
 rotate_left
 ·intro w hSw;(try dsimp only at hSw);go_simp;try with_reducible rfl
 go_simp
 refine wpAnyH_take (i:=7) (v:=?_) rfl (by kernel_rfl) (by kernel_rfl) (by kernel_rfl) (fun _ _ _ h=>h) (Or.inl ⟨by rfl,?_⟩) (by assumption) ?_
 rotate_left
 ·intro w hSw;(try dsimp only at hSw);go_simp;try with_reducible rfl
 go_simp
 refine wpAnyH_ready (rs:=[2]) (by kernel_rfl) (by simp) ?_
 refine AllReadyH.cons rfl (fun K hK=>?_) AllReadyH.nil
 go_simp
 refine hK.out _ _ ?_ (fun hHeld=>?_)
 ·exact HS.out _ ((Below.refl _ _).drew.alloc (Nat.le_refl _) _)
 clear hK K
 go_simp
 refine wpAnyH_ready (rs:=[3]) (by kernel_rfl) (by simp) ?_
 refine AllReadyH.cons rfl (fun K hK=>?_) AllReadyH.nil
 go_simp
 refine (Rv.rPut_ok none 0 0 [] 0 [12] (w3.heap.size+1) (some ⟨w3.heap.size,0,none⟩) 1 _ (Rd.nil _ _ _) (Nat.zero_le _) (by simp [ones]) (Rd.drew (rd_new w3 #[.int .i64 12] _ _ _ _ _ rfl (by simp) rfl rfl)) (by simp) (by decide) (by decide) (by decide)).mono ?_
 rintro e w4 ⟨v4,rfl,ho4,hb4⟩
 rw [show 0+sumW [12]=1 by decide,List.nil_append] at ho4
 have HB4:Hid (Below w3.heap.size w3 w4):=((Below.refl _ _).alloc (Nat.le_refl _) _).drew.trans (hb4.mono (by simp))
 obtain ⟨A4,c4,rfl,_,_,_,hr4⟩:=own_form ho4
 rw [show 1 * 1=1 from rfl] at hr4
 have HP4:=Lib.hid hr4
 clear ho4 hb4 hr4
 refine hK.out _ _ ?_ (fun hHeld=>?_)
 ·exact HS.out _ HB4.out
 clear hK K
 go_simp
 refine wpAnyH_ready (rs:=[5]) (by kernel_rfl) (by simp) ?_
 refine AllReadyH.cons rfl (fun K hK=>?_) AllReadyH.nil
 go_simp
 refine (Rv.rPut_ok A4 1 c4 (encs [12]) w4.heap.size [a] w3.heap.size (some ⟨w.heap.size+1,0,none⟩) 1 w4 HP4.out (Nat.le_refl _) HE9.out (HL.out w4 HB4.out) HB4.out.size (by simp) HM.out (by have:=HSW.out;omega)).mono ?_
 rintro e w5 ⟨v5,rfl,ho5,hb5⟩
 have HB5:Hid (Below w3.heap.size w3 w5):=HB4.out.trans (hb5.mono HB4.out.size)
 have HO5:=Lib.hid (own_base ho5 HB4.out.size)
 clear hb5 ho5
 refine hK.out _ _ ?_ (fun hHeld=>?_)
 ·exact HS.out _ HB5.out
 clear hK K
 go_simp
 refine wpAnyH_ready (rs:=[8]) (by kernel_rfl) (by simp) ?_
 refine AllReadyH.cons rfl (fun K hK=>?_) AllReadyH.nil
 refine step_own rfl (.tmp 117) (.tmp 119) 24 rfl w3.heap.size 5 i0 (.int .u8 0) 1 1 Tryd.underlying24 HI.out.1 HI.out.2.1 HI.out.2.2.1 HI.out.2.2.2 rfl (by decide) v5 (1+sumW [a]) (encs [12] ++ encs [a]) (by simp [Act.eval,Act.put]) HO5.out w.heap.size A 0 c (bv data) (by simp [Act.eval,Act.put]) (by rw [Nat.mul_one];exact HX.out w5 HB5.out) (ones_bv _) (by have:=HSW.out;unfold maxLen;omega) (by have:=HSW.out;omega) HB5.out.size ?_
 intro v6 w6 ho6 hg6
 have HB6:Hid (Below w3.heap.size w3 w6):=HB5.out.grown hg6 HB5.out.size (fun g hg=>(HO5.out.lt g hg).1)
 have HO6:=Lib.hid (own_base ho6 HW.out.size)
 clear ho6 hg6
 refine hK.out _ _ ?_ (fun hHeld=>?_)
 ·exact HS.out _ HB6.out
 clear hK K
 go_simp
 refine wpAnyH_take (i:=9) (v:=?_) rfl (by kernel_rfl) (by kernel_rfl) (by kernel_rfl) (fun _ _ _ h=>h) (Or.inl ⟨by rfl,?_⟩) (by assumption) ?_
 rotate_left
 ·intro w hSw;(try dsimp only at hSw);go_simp;try with_reducible rfl
 go_simp
 refine wpAnyH_done (by kernel_rfl) ?_ _
 refine NoPanic.normal ?_
 go_wp2_with fail
 go_ret
 exact ⟨_,rfl,HO6.out,HW.out.trans (HB6.out.mono HW.out.size)⟩
theorem rlay_3 (id off a b note:Int) (fin:Bool) (data:List Nat) (A:Option Addr) (n c:Nat) (A2:Option Addr) (n2 c2:Nat) (w:World) (hm:allMay [id,off,(bitI fin),(n:Int)]) (hx:Rd w w.heap.size A n (bv data)) (hn:n≤120) :
  Calls Tryd.prog 52 #[.agg #[.int .i64 3,.int .i64 id,.int .i64 off,.int .i64 0,.int .i64 0,.int .i64 note,.bool fin,.slice A n c,.slice A2 0 c2]] w fun e w'=>∃ v',e=.returned v'∧w'.ownsRow w.heap.size 5 1 v' (1+sumW [id,off,(bitI fin),(n:Int)]+n) (encs [3] ++ encs [id,off,(bitI fin),(n:Int)] ++ bv data)∧Below w.heap.size w w':=by
 have HM:=Lib.hid hm
 have hX0:=Lib.hid hx
 have HE9:Hid (ones (encs [3])):=ones_encs _
 have HSW:Hid (sumW [id,off,(bitI fin),(n:Int)]≤8 * 4):=sumW_le _
 obtain ⟨i0,hi,hz0,hz1,hz2⟩:=info_parts infoB
 have HI:=Lib.hid (And.intro hi (And.intro hz0 (And.intro hz1 hz2)))
 have HBT:Hid (∀ W,Calls Tryd.prog 72 #[.bool fin] W fun e w'=>e=.returned (.int .i64 (bitI fin))∧W=w'):=by
  intro W
  cases fin <;> (go_enter Tryd.func72,Tryd.ntmps72;go_wp2_with fail;go_ret;exact ⟨rfl,rfl⟩)
 clear hm hx hi hz0 hz1 hz2
 go_enter Tryd.func52,Tryd.ntmps52
 go_wp2_with fail
 obtain ⟨w1,hw1⟩:∃ x,Hid (x=w.alloc (.cells #[.int .i64 3,.int .i64 id,.int .i64 off,.int .i64 0,.int .i64 0,.int .i64 note,.bool fin,.slice A n c,.slice A2 0 c2] 44)):=⟨_,Lib.hid rfl⟩
 rw [← hw1.out]
 have HW1:Hid (Below w.heap.size w w1):=by rw [hw1.out];exact Lib.hid ((Below.refl _ _).alloc (Nat.le_refl _) _)
 have hlt:Hid (w.heap.size<w1.heap.size):=Lib.hid (by rw [hw1.out];simp)
 have HS:Hid (∀ W,Below w1.heap.size w1 W→Below w1.heap.size w1 W∧W.cell? ⟨w.heap.size,1,none⟩=some (.int .i64 id)∧W.cell? ⟨w.heap.size,2,none⟩=some (.int .i64 off)∧W.cell? ⟨w.heap.size,6,none⟩=some (.bool fin)∧W.cell? ⟨w.heap.size,7,none⟩=some (.slice A n c)):=by
  intro W hW
  refine ⟨hW,?_,?_,?_,?_⟩ <;> (rw [hW.cell hlt.out,hw1.out];exact World.cell?_alloc_at _ _ _ _ rfl)
 have HC:Hid (∀ W,Below w1.heap.size w1 W→W.cell? ⟨w.heap.size,0,none⟩=some (.int .i64 3)∧W.cell? ⟨w.heap.size,7,none⟩=some (.slice A n c)):=by
  intro W hW
  refine ⟨?_,?_⟩ <;> (rw [hW.cell hlt.out,hw1.out];exact World.cell?_alloc_at _ _ _ _ rfl)
 clear hw1
 refine wp_region_held_drew (S:=(fun W=>Below w1.heap.size w1 W∧W.cell? ⟨w.heap.size,1,none⟩=some (.int .i64 id)∧W.cell? ⟨w.heap.size,2,none⟩=some (.int .i64 off)∧W.cell? ⟨w.heap.size,6,none⟩=some (.bool fin)∧W.cell? ⟨w.heap.size,7,none⟩=some (.slice A n c))) (by kernel_rfl) ?_ (fun hHeld=>?_)
 ·exact HS.out _ (Below.refl _ _).drew
 refine wpAnyH_take (i:=0) (v:=?_) rfl (by kernel_rfl) (by kernel_rfl) (by kernel_rfl) (fun _ _ _ h=>h) (Or.inl ⟨by rfl,?_⟩) (by assumption) ?_
 rotate_left
 ·intro w hSw;(try dsimp only at hSw);go_simp;try with_reducible rfl
 go_simp
 refine wpAnyH_take (i:=1) (v:=?_) rfl (by kernel_rfl) (by kernel_rfl) (by kernel_rfl) (fun _ _ _ h=>h) (Or.inl ⟨by rfl,?_⟩) (by assumption) ?_
 rotate_left
 ·intro w hSw;(try dsimp only at hSw);go_simp;try with_reducible rfl
 go_simp
 refine wpAnyH_take (i:=2) (v:=?_) rfl (by kernel_rfl) (by kernel_rfl) (by kernel_rfl) (fun _ _ _ h=>h) (Or.inl ⟨by rfl,?_⟩) (by assumption) ?_
 rotate_left
 ·intro w hSw;(try dsimp only at hSw);go_simp;try with_reducible rfl
 go_simp
 refine wpAnyH_take (i:=3) (v:=?_) rfl (by kernel_rfl) (by kernel_rfl) (by kernel_rfl) (fun _ _ _ h=>h) (Or.inl ⟨by rfl,?_⟩) (by assumption) ?_
 rotate_left
 ·intro w hSw;(try dsimp only at hSw);go_simp;try with_reducible rfl
 go_simp
 refine wpAnyH_take (i:=4) (v:=?_) rfl (by kernel_rfl) (by kernel_rfl) (by kernel_rfl) (fun _ _ _ h=>h) (Or.inl ⟨by rfl,?_⟩) (by assumption) ?_
 rotate_left
 ·intro w hSw;(try dsimp only at hSw);go_simp;try with_reducible rfl
 go_simp
 refine wpAnyH_take (i:=5) (v:=?_) rfl (by kernel_rfl) (by kernel_rfl) (by kernel_rfl) (fun _ _ _ h=>h) (Or.inl ⟨by rfl,?_⟩) (by assumption) ?_
 rotate_left
 ·intro w hSw;(try dsimp only at hSw);go_simp;try with_reducible rfl
 go_simp
 refine wpAnyH_take (i:=7) (v:=?_) rfl (by kernel_rfl) (by kernel_rfl) (by kernel_rfl) (fun _ _ _ h=>h) (Or.inl ⟨by rfl,?_⟩) (by assumption) ?_
 rotate_left
 ·intro w hSw;(try dsimp only at hSw);go_simp;try with_reducible rfl
 go_simp
 refine wpAnyH_take (i:=8) (v:=?_) rfl (by kernel_rfl) (by kernel_rfl) (by kernel_rfl) (fun _ _ _ h=>h) (Or.inl ⟨by rfl,?_⟩) (by assumption) ?_
 rotate_left
 ·intro w hSw;(try dsimp only at hSw);go_simp;try with_reducible rfl
 go_simp
 refine wpAnyH_take (i:=9) (v:=?_) rfl (by kernel_rfl) (by kernel_rfl) (by kernel_rfl) (fun _ _ _ h=>h) (Or.inl ⟨by rfl,?_⟩) (by assumption) ?_
 rotate_left
 ·intro w hSw;(try dsimp only at hSw);go_simp;try with_reducible rfl
 go_simp
 refine wpAnyH_ready (rs:=[6]) (by kernel_rfl) (by simp) ?_
 refine AllReadyH.cons rfl (fun K hK=>?_) AllReadyH.nil
 go_simp
 refine (HBT.out _).mono ?_
 rintro e w' ⟨rfl,rfl⟩
 refine hK.out _ _ ?_ (fun hHeld=>?_)
 ·exact HS.out _ (Below.refl _ _).drew
 clear hK K
 go_simp
 refine wpAnyH_ready (rs:=[10]) (by kernel_rfl) (by simp) ?_
 refine AllReadyH.cons rfl (fun K hK=>?_) AllReadyH.nil
 go_simp
 refine hK.out _ _ ?_ (fun hHeld=>?_)
 ·exact HS.out _ ((Below.refl _ _).drew.alloc (Nat.le_refl _) _)
 clear hK K
 go_simp
 refine wpAnyH_take (i:=11) (v:=?_) rfl (by kernel_rfl) (by kernel_rfl) (by kernel_rfl) (fun _ _ _ h=>h) (Or.inl ⟨by rfl,?_⟩) (by assumption) ?_
 rotate_left
 ·intro w hSw;(try dsimp only at hSw);go_simp;try with_reducible rfl
 go_simp
 refine wpAnyH_done (by kernel_rfl) ?_ _
 go_wp2_with fail
 obtain ⟨w3,hw3⟩:∃ x,Hid (x=(w1.alloc (.cells #[.int .i64 id,.int .i64 off,.int .i64 (bitI fin),.int .i64 (n:Int)] 3)).drew):=⟨_,Lib.hid rfl⟩
 rw [← hw3.out]
 have HB3:Hid (Below w1.heap.size w1 w3):=by rw [hw3.out];exact Lib.hid (((Below.refl _ _).alloc (Nat.le_refl _) _).drew)
 have HL:Hid (∀ W,Below w3.heap.size w3 W→Rd W w3.heap.size (some ⟨w1.heap.size,0,none⟩) 4 (ints [id,off,(bitI fin),(n:Int)])):=fun W hW=>Rd.below (by rw [hw3.out];exact Rd.drew (rd_new _ _ _ _ _ _ _ rfl (by simp) rfl rfl)) hW (Nat.le_refl _)
 have HW:Hid (Below w.heap.size w w3):=HW1.out.trans (HB3.out.mono HW1.out.size)
 have HX:Hid (∀ W,Below w3.heap.size w3 W→Rd W w.heap.size A n (bv data)):=fun W hW=>(hX0.out.below HW.out (Nat.le_refl _)).below hW HW.out.size
 have HS2:Hid (∀ W,Below w3.heap.size w3 W→Below w3.heap.size w3 W∧W.cell? ⟨w.heap.size,0,none⟩=some (.int .i64 3)∧W.cell? ⟨w.heap.size,7,none⟩=some (.slice A n c)):=fun W hW=>by
  have hh:=HC.out W (HB3.out.trans (hW.mono HB3.out.size))
  exact ⟨hW,hh.1,hh.2⟩
 clear hw3
 refine wp_region_noPanic ?_
 refine wp_region_held_drew (S:=(fun W=>Below w3.heap.size w3 W∧W.cell? ⟨w.heap.size,0,none⟩=some (.int .i64 3)∧W.cell? ⟨w.heap.size,7,none⟩=some (.slice A n c))) (by kernel_rfl) ?_ (fun hHeld=>?_)
 ·exact HS2.out _ (Below.refl _ _).drew
 refine wpAnyH_take (i:=0) (v:=?_) rfl (by kernel_rfl) (by kernel_rfl) (by kernel_rfl) (fun _ _ _ h=>h) (Or.inl ⟨by rfl,?_⟩) (by assumption) ?_
 rotate_left
 ·intro w hSw;(try dsimp only at hSw);go_simp;try with_reducible rfl
 go_simp
 refine wpAnyH_take (i:=1) (v:=?_) rfl (by kernel_rfl) (by kernel_rfl) (by kernel_rfl) (fun _ _ _ h=>h) (Or.inl ⟨by rfl,?_⟩) (by assumption) ?_
 rotate_left
 ·intro w hSw;(try dsimp only at hSw);go_simp;try with_reducible rfl
 go_simp
 refine wpAnyH_take (i:=4) (v:=?_) rfl (by kernel_rfl) (by kernel_rfl) (by kernel_rfl) (fun _ _ _ h=>h) (Or.inl ⟨by rfl,?_⟩) (by assumption) ?_
 rotate_left
 ·intro w hSw;(try dsimp only at hSw);go_simp;try with_reducible rfl
 go_simp
 refine wpAnyH_take (i:=6) (v:=?_) rfl (by kernel_rfl) (by kernel_rfl) (by kernel_rfl) (fun _ _ _ h=>h) (Or.inl ⟨by rfl,?_⟩) (by assumption) ?_
 rotate_left
 ·intro w hSw;(try dsimp only at hSw);go_simp;try with_reducible rfl
 go_simp
 refine wpAnyH_take (i:=7) (v:=?_) rfl (by kernel_rfl) (by kernel_rfl) (by kernel_rfl) (fun _ _ _ h=>h) (Or.inl ⟨by rfl,?_⟩) (by assumption) ?_
 rotate_left
 ·intro w hSw;(try dsimp only at hSw);go_simp;try with_reducible rfl
 go_simp
 refine wpAnyH_ready (rs:=[2]) (by kernel_rfl) (by simp) ?_
 refine AllReadyH.cons rfl (fun K hK=>?_) AllReadyH.nil
 go_simp
 refine hK.out _ _ ?_ (fun hHeld=>?_)
 ·exact HS2.out _ ((Below.refl _ _).drew.alloc (Nat.le_refl _) _)
 clear hK K
 go_simp
 refine wpAnyH_ready (rs:=[3]) (by kernel_rfl) (by simp) ?_
 refine AllReadyH.cons rfl (fun K hK=>?_) AllReadyH.nil
 go_simp
 refine (Rv.rPut_ok none 0 0 [] 0 [3] (w3.heap.size+1) (some ⟨w3.heap.size,0,none⟩) 1 _ (Rd.nil _ _ _) (Nat.zero_le _) (by simp [ones]) (Rd.drew (rd_new w3 #[.int .i64 3] _ _ _ _ _ rfl (by simp) rfl rfl)) (by simp) (by decide) (by decide) (by decide)).mono ?_
 rintro e w4 ⟨v4,rfl,ho4,hb4⟩
 rw [show 0+sumW [3]=1 by decide,List.nil_append] at ho4
 have HB4:Hid (Below w3.heap.size w3 w4):=((Below.refl _ _).alloc (Nat.le_refl _) _).drew.trans (hb4.mono (by simp))
 obtain ⟨A4,c4,rfl,_,_,_,hr4⟩:=own_form ho4
 rw [show 1 * 1=1 from rfl] at hr4
 have HP4:=Lib.hid hr4
 clear ho4 hb4 hr4
 refine hK.out _ _ ?_ (fun hHeld=>?_)
 ·exact HS2.out _ HB4.out
 clear hK K
 go_simp
 refine wpAnyH_ready (rs:=[5]) (by kernel_rfl) (by simp) ?_
 refine AllReadyH.cons rfl (fun K hK=>?_) AllReadyH.nil
 go_simp
 refine (Rv.rPut_ok A4 1 c4 (encs [3]) w4.heap.size [id,off,(bitI fin),(n:Int)] w3.heap.size (some ⟨w1.heap.size,0,none⟩) 4 w4 HP4.out (Nat.le_refl _) HE9.out (HL.out w4 HB4.out) HB4.out.size (by simp) HM.out (by have:=HSW.out;omega)).mono ?_
 rintro e w5 ⟨v5,rfl,ho5,hb5⟩
 have HB5:Hid (Below w3.heap.size w3 w5):=HB4.out.trans (hb5.mono HB4.out.size)
 have HO5:=Lib.hid (own_base ho5 HB4.out.size)
 clear hb5 ho5
 refine hK.out _ _ ?_ (fun hHeld=>?_)
 ·exact HS2.out _ HB5.out
 clear hK K
 go_simp
 refine wpAnyH_ready (rs:=[8]) (by kernel_rfl) (by simp) ?_
 refine AllReadyH.cons rfl (fun K hK=>?_) AllReadyH.nil
 refine step_own rfl (.tmp 117) (.tmp 119) 24 rfl w3.heap.size 5 i0 (.int .u8 0) 1 1 Tryd.underlying24 HI.out.1 HI.out.2.1 HI.out.2.2.1 HI.out.2.2.2 rfl (by decide) v5 (1+sumW [id,off,(bitI fin),(n:Int)]) (encs [3] ++ encs [id,off,(bitI fin),(n:Int)]) (by simp [Act.eval,Act.put]) HO5.out w.heap.size A n c (bv data) (by simp [Act.eval,Act.put]) (by rw [Nat.mul_one];exact HX.out w5 HB5.out) (ones_bv _) (by have:=HSW.out;unfold maxLen;omega) (by have:=HSW.out;omega) HB5.out.size ?_
 intro v6 w6 ho6 hg6
 have HB6:Hid (Below w3.heap.size w3 w6):=HB5.out.grown hg6 HB5.out.size (fun g hg=>(HO5.out.lt g hg).1)
 have HO6:=Lib.hid (own_base ho6 HW.out.size)
 clear ho6 hg6
 refine hK.out _ _ ?_ (fun hHeld=>?_)
 ·exact HS2.out _ HB6.out
 clear hK K
 go_simp
 refine wpAnyH_take (i:=9) (v:=?_) rfl (by kernel_rfl) (by kernel_rfl) (by kernel_rfl) (fun _ _ _ h=>h) (Or.inl ⟨by rfl,?_⟩) (by assumption) ?_
 rotate_left
 ·intro w hSw;(try dsimp only at hSw);go_simp;try with_reducible rfl
 go_simp
 refine wpAnyH_done (by kernel_rfl) ?_ _
 refine NoPanic.normal ?_
 go_wp2_with fail
 go_ret
 exact ⟨_,rfl,HO6.out,HW.out.trans (HB6.out.mono HW.out.size)⟩
theorem rlay_8 (id off a b note:Int) (fin:Bool) (data:List Nat) (A:Option Addr) (n c:Nat) (A2:Option Addr) (n2 c2:Nat) (w:World) (hm:allMay [a,(bitI fin)]) (hx:Rd w w.heap.size A 0 (bv data)) (hn:0≤120) :
  Calls Tryd.prog 52 #[.agg #[.int .i64 8,.int .i64 0,.int .i64 0,.int .i64 a,.int .i64 0,.int .i64 note,.bool fin,.slice A 0 c,.slice A2 0 c2]] w fun e w'=>∃ v',e=.returned v'∧w'.ownsRow w.heap.size 5 1 v' (1+sumW [a,(bitI fin)]+0) (encs [8] ++ encs [a,(bitI fin)] ++ bv data)∧Below w.heap.size w w':=by
 have HM:=Lib.hid hm
 have hX0:=Lib.hid hx
 have HE9:Hid (ones (encs [8])):=ones_encs _
 have HSW:Hid (sumW [a,(bitI fin)]≤8 * 2):=sumW_le _
 obtain ⟨i0,hi,hz0,hz1,hz2⟩:=info_parts infoB
 have HI:=Lib.hid (And.intro hi (And.intro hz0 (And.intro hz1 hz2)))
 have HBT:Hid (∀ W,Calls Tryd.prog 72 #[.bool fin] W fun e w'=>e=.returned (.int .i64 (bitI fin))∧W=w'):=by
  intro W
  cases fin <;> (go_enter Tryd.func72,Tryd.ntmps72;go_wp2_with fail;go_ret;exact ⟨rfl,rfl⟩)
 clear hm hx hi hz0 hz1 hz2
 go_enter Tryd.func52,Tryd.ntmps52
 go_wp2_with fail
 obtain ⟨w1,hw1⟩:∃ x,Hid (x=w.alloc (.cells #[.int .i64 8,.int .i64 0,.int .i64 0,.int .i64 a,.int .i64 0,.int .i64 note,.bool fin,.slice A 0 c,.slice A2 0 c2] 44)):=⟨_,Lib.hid rfl⟩
 rw [← hw1.out]
 have HW1:Hid (Below w.heap.size w w1):=by rw [hw1.out];exact Lib.hid ((Below.refl _ _).alloc (Nat.le_refl _) _)
 have hlt:Hid (w.heap.size<w1.heap.size):=Lib.hid (by rw [hw1.out];simp)
 have HS:Hid (∀ W,Below w1.heap.size w1 W→Below w1.heap.size w1 W∧W.cell? ⟨w.heap.size,3,none⟩=some (.int .i64 a)∧W.cell? ⟨w.heap.size,6,none⟩=some (.bool fin)):=by
  intro W hW
  refine ⟨hW,?_,?_⟩ <;> (rw [hW.cell hlt.out,hw1.out];exact World.cell?_alloc_at _ _ _ _ rfl)
 have HC:Hid (∀ W,Below w1.heap.size w1 W→W.cell? ⟨w.heap.size,0,none⟩=some (.int .i64 8)∧W.cell? ⟨w.heap.size,7,none⟩=some (.slice A 0 c)):=by
  intro W hW
  refine ⟨?_,?_⟩ <;> (rw [hW.cell hlt.out,hw1.out];exact World.cell?_alloc_at _ _ _ _ rfl)
 clear hw1
 refine wp_region_held_drew (S:=(fun W=>Below w1.heap.size w1 W∧W.cell? ⟨w.heap.size,3,none⟩=some (.int .i64 a)∧W.cell? ⟨w.heap.size,6,none⟩=some (.bool fin))) (by kernel_rfl) ?_ (fun hHeld=>?_)
 ·exact HS.out _ (Below.refl _ _).drew
 refine wpAnyH_take (i:=0) (v:=?_) rfl (by kernel_rfl) (by kernel_rfl) (by kernel_rfl) (fun _ _ _ h=>h) (Or.inl ⟨by rfl,?_⟩) (by assumption) ?_
 rotate_left
 ·intro w hSw;(try dsimp only at hSw);go_simp;try with_reducible rfl
 go_simp
 refine wpAnyH_take (i:=1) (v:=?_) rfl (by kernel_rfl) (by kernel_rfl) (by kernel_rfl) (fun _ _ _ h=>h) (Or.inl ⟨by rfl,?_⟩) (by assumption) ?_
 rotate_left
 ·intro w hSw;(try dsimp only at hSw);go_simp;try with_reducible rfl
 go_simp
 refine wpAnyH_take (i:=2) (v:=?_) rfl (by kernel_rfl) (by kernel_rfl) (by kernel_rfl) (fun _ _ _ h=>h) (Or.inl ⟨by rfl,?_⟩) (by assumption) ?_
 rotate_left
 ·intro w hSw;(try dsimp only at hSw);go_simp;try with_reducible rfl
 go_simp
 refine wpAnyH_take (i:=3) (v:=?_) rfl (by kernel_rfl) (by kernel_rfl) (by kernel_rfl) (fun _ _ _ h=>h) (Or.inl ⟨by rfl,?_⟩) (by assumption) ?_
 rotate_left
 ·intro w hSw;(try dsimp only at hSw);go_simp;try with_reducible rfl
 go_simp
 refine wpAnyH_ready (rs:=[4]) (by kernel_rfl) (by simp) ?_
 refine AllReadyH.cons rfl (fun K hK=>?_) AllReadyH.nil
 go_simp
 refine (HBT.out _).mono ?_
 rintro e w' ⟨rfl,rfl⟩
 refine hK.out _ _ ?_ (fun hHeld=>?_)
 ·exact HS.out _ (Below.refl _ _).drew
 clear hK K
 go_simp
 refine wpAnyH_ready (rs:=[5]) (by kernel_rfl) (by simp) ?_
 refine AllReadyH.cons rfl (fun K hK=>?_) AllReadyH.nil
 go_simp
 refine hK.out _ _ ?_ (fun hHeld=>?_)
 ·exact HS.out _ ((Below.refl _ _).drew.alloc (Nat.le_refl _) _)
 clear hK K
 go_simp
 refine wpAnyH_take (i:=6) (v:=?_) rfl (by kernel_rfl) (by kernel_rfl) (by kernel_rfl) (fun _ _ _ h=>h) (Or.inl ⟨by rfl,?_⟩) (by assumption) ?_
 rotate_left
 ·intro w hSw;(try dsimp only at hSw);go_simp;try with_reducible rfl
 go_simp
 refine wpAnyH_done (by kernel_rfl) ?_ _
 go_wp2_with fail
 obtain ⟨w3,hw3⟩:∃ x,Hid (x=(w1.alloc (.cells #[.int .i64 a,.int .i64 (bitI fin)] 3)).drew):=⟨_,Lib.hid rfl⟩
 rw [← hw3.out]
 have HB3:Hid (Below w1.heap.size w1 w3):=by rw [hw3.out];exact Lib.hid (((Below.refl _ _).alloc (Nat.le_refl _) _).drew)
 have HL:Hid (∀ W,Below w3.heap.size w3 W→Rd W w3.heap.size (some ⟨w1.heap.size,0,none⟩) 2 (ints [a,(bitI fin)])):=fun W hW=>Rd.below (by rw [hw3.out];exact Rd.drew (rd_new _ _ _ _ _ _ _ rfl (by simp) rfl rfl)) hW (Nat.le_refl _)
 have HW:Hid (Below w.heap.size w w3):=HW1.out.trans (HB3.out.mono HW1.out.size)
 have HX:Hid (∀ W,Below w3.heap.size w3 W→Rd W w.heap.size A 0 (bv data)):=fun W hW=>(hX0.out.below HW.out (Nat.le_refl _)).below hW HW.out.size
 have HS2:Hid (∀ W,Below w3.heap.size w3 W→Below w3.heap.size w3 W∧W.cell? ⟨w.heap.size,0,none⟩=some (.int .i64 8)∧W.cell? ⟨w.heap.size,7,none⟩=some (.slice A 0 c)):=fun W hW=>by
  have hh:=HC.out W (HB3.out.trans (hW.mono HB3.out.size))
  exact ⟨hW,hh.1,hh.2⟩
 clear hw3
 refine wp_region_noPanic ?_
 refine wp_region_held_drew (S:=(fun W=>Below w3.heap.size w3 W∧W.cell? ⟨w.heap.size,0,none⟩=some (.int .i64 8)∧W.cell? ⟨w.heap.size,7,none⟩=some (.slice A 0 c))) (by kernel_rfl) ?_ (fun hHeld=>?_)
 ·exact HS2.out _ (Below.refl _ _).drew
 refine wpAnyH_take (i:=0) (v:=?_) rfl (by kernel_rfl) (by kernel_rfl) (by kernel_rfl) (fun _ _ _ h=>h) (Or.inl ⟨by rfl,?_⟩) (by assumption) ?_
 rotate_left
 ·intro w hSw;(try dsimp only at hSw);go_simp;try with_reducible rfl
 go_simp
 refine wpAnyH_take (i:=1) (v:=?_) rfl (by kernel_rfl) (by kernel_rfl) (by kernel_rfl) (fun _ _ _ h=>h) (Or.inl ⟨by rfl,?_⟩) (by assumption) ?_
 rotate_left
 ·intro w hSw;(try dsimp only at hSw);go_simp;try with_reducible rfl
 go_simp
 refine wpAnyH_take (i:=4) (v:=?_) rfl (by kernel_rfl) (by kernel_rfl) (by kernel_rfl) (fun _ _ _ h=>h) (Or.inl ⟨by rfl,?_⟩) (by assumption) ?_
 rotate_left
 ·intro w hSw;(try dsimp only at hSw);go_simp;try with_reducible rfl
 go_simp
 refine wpAnyH_take (i:=6) (v:=?_) rfl (by kernel_rfl) (by kernel_rfl) (by kernel_rfl) (fun _ _ _ h=>h) (Or.inl ⟨by rfl,?_⟩) (by assumption) ?_
 rotate_left
 ·intro w hSw;(try dsimp only at hSw);go_simp;try with_reducible rfl
 go_simp
 refine wpAnyH_take (i:=7) (v:=?_) rfl (by kernel_rfl) (by kernel_rfl) (by kernel_rfl) (fun _ _ _ h=>h) (Or.inl ⟨by rfl,?_⟩) (by assumption) ?_
 rotate_left
 ·intro w hSw;(try dsimp only at hSw);go_simp;try with_reducible rfl
 go_simp
 refine wpAnyH_ready (rs:=[2]) (by kernel_rfl) (by simp) ?_
 refine AllReadyH.cons rfl (fun K hK=>?_) AllReadyH.nil
 go_simp
 refine hK.out _ _ ?_ (fun hHeld=>?_)
 ·exact HS2.out _ ((Below.refl _ _).drew.alloc (Nat.le_refl _) _)
 clear hK K
 go_simp
 refine wpAnyH_ready (rs:=[3]) (by kernel_rfl) (by simp) ?_
 refine AllReadyH.cons rfl (fun K hK=>?_) AllReadyH.nil
 go_simp
 refine (Rv.rPut_ok none 0 0 [] 0 [8] (w3.heap.size+1) (some ⟨w3.heap.size,0,none⟩) 1 _ (Rd.nil _ _ _) (Nat.zero_le _) (by simp [ones]) (Rd.drew (rd_new w3 #[.int .i64 8] _ _ _ _ _ rfl (by simp) rfl rfl)) (by simp) (by decide) (by decide) (by decide)).mono ?_
 rintro e w4 ⟨v4,rfl,ho4,hb4⟩
 rw [show 0+sumW [8]=1 by decide,List.nil_append] at ho4
 have HB4:Hid (Below w3.heap.size w3 w4):=((Below.refl _ _).alloc (Nat.le_refl _) _).drew.trans (hb4.mono (by simp))
 obtain ⟨A4,c4,rfl,_,_,_,hr4⟩:=own_form ho4
 rw [show 1 * 1=1 from rfl] at hr4
 have HP4:=Lib.hid hr4
 clear ho4 hb4 hr4
 refine hK.out _ _ ?_ (fun hHeld=>?_)
 ·exact HS2.out _ HB4.out
 clear hK K
 go_simp
 refine wpAnyH_ready (rs:=[5]) (by kernel_rfl) (by simp) ?_
 refine AllReadyH.cons rfl (fun K hK=>?_) AllReadyH.nil
 go_simp
 refine (Rv.rPut_ok A4 1 c4 (encs [8]) w4.heap.size [a,(bitI fin)] w3.heap.size (some ⟨w1.heap.size,0,none⟩) 2 w4 HP4.out (Nat.le_refl _) HE9.out (HL.out w4 HB4.out) HB4.out.size (by simp) HM.out (by have:=HSW.out;omega)).mono ?_
 rintro e w5 ⟨v5,rfl,ho5,hb5⟩
 have HB5:Hid (Below w3.heap.size w3 w5):=HB4.out.trans (hb5.mono HB4.out.size)
 have HO5:=Lib.hid (own_base ho5 HB4.out.size)
 clear hb5 ho5
 refine hK.out _ _ ?_ (fun hHeld=>?_)
 ·exact HS2.out _ HB5.out
 clear hK K
 go_simp
 refine wpAnyH_ready (rs:=[8]) (by kernel_rfl) (by simp) ?_
 refine AllReadyH.cons rfl (fun K hK=>?_) AllReadyH.nil
 refine step_own rfl (.tmp 117) (.tmp 119) 24 rfl w3.heap.size 5 i0 (.int .u8 0) 1 1 Tryd.underlying24 HI.out.1 HI.out.2.1 HI.out.2.2.1 HI.out.2.2.2 rfl (by decide) v5 (1+sumW [a,(bitI fin)]) (encs [8] ++ encs [a,(bitI fin)]) (by simp [Act.eval,Act.put]) HO5.out w.heap.size A 0 c (bv data) (by simp [Act.eval,Act.put]) (by rw [Nat.mul_one];exact HX.out w5 HB5.out) (ones_bv _) (by have:=HSW.out;unfold maxLen;omega) (by have:=HSW.out;omega) HB5.out.size ?_
 intro v6 w6 ho6 hg6
 have HB6:Hid (Below w3.heap.size w3 w6):=HB5.out.grown hg6 HB5.out.size (fun g hg=>(HO5.out.lt g hg).1)
 have HO6:=Lib.hid (own_base ho6 HW.out.size)
 clear ho6 hg6
 refine hK.out _ _ ?_ (fun hHeld=>?_)
 ·exact HS2.out _ HB6.out
 clear hK K
 go_simp
 refine wpAnyH_take (i:=9) (v:=?_) rfl (by kernel_rfl) (by kernel_rfl) (by kernel_rfl) (fun _ _ _ h=>h) (Or.inl ⟨by rfl,?_⟩) (by assumption) ?_
 rotate_left
 ·intro w hSw;(try dsimp only at hSw);go_simp;try with_reducible rfl
 go_simp
 refine wpAnyH_done (by kernel_rfl) ?_ _
 refine NoPanic.normal ?_
 go_wp2_with fail
 go_ret
 exact ⟨_,rfl,HO6.out,HW.out.trans (HB6.out.mono HW.out.size)⟩
theorem rlay_2 (note:Int) (es:List Int) (A:Option Addr) (c:Nat) (A2:Option Addr) (n2 c2:Nat) (w:World) (hsp:SpsOk es n2) (hm:n2≤8) (hc2:n2≤c2) (hrd:Rd w w.heap.size A2 (n2 * 2) (ints es)) (hmay:allMay ((n2:Int) :: runN es n2)) :
  Calls Tryd.prog 52 #[.agg #[.int .i64 2,.int .i64 0,.int .i64 0,.int .i64 0,.int .i64 0,.int .i64 note,.bool false,.slice A 0 c,.slice A2 n2 c2]] w fun e w'=>∃ v',e=.returned v'∧w'.ownsRow w.heap.size 5 1 v' (1+sumW ((n2:Int) :: runN es n2)) (encs [2] ++ encs ((n2:Int) :: runN es n2))∧Below w.heap.size w w':=by
 have HSP:=Lib.hid hsp
 have HRD:=Lib.hid hrd
 have HM:=Lib.hid hmay
 have hci:(n2:Int)≤(c2:Int):=by omega
 have hni:(n2:Int)≤8:=by omega
 obtain ⟨i0,hi,hz0,hz1,hz2⟩:=info_parts infoB
 have HI8:=Lib.hid (And.intro hi (And.intro hz0 (And.intro hz1 hz2)))
 clear hi hz0 hz1 hz2
 obtain ⟨iI,hi,hz0,hz1,hz2⟩:=info_parts infoInt
 have HI:=Lib.hid (And.intro hi (And.intro hz0 (And.intro hz1 hz2)))
 clear hi hz0 hz1 hz2 hsp hrd hmay
 go_enter Tryd.func52,Tryd.ntmps52
 go_wp2_with fail
 obtain ⟨w0,hw0⟩:∃ w0,Hid (w.alloc (.cells #[.int .i64 2,.int .i64 0,.int .i64 0,.int .i64 0,.int .i64 0,.int .i64 note,.bool false,.slice A 0 c,.slice A2 n2 c2] 44)=w0):=⟨_,rfl⟩
 obtain ⟨g,hg⟩:∃ g,Hid (w.heap.size=g):=⟨_,rfl⟩
 have H0:Hid (w0.heap.size=g+1∧Below w.heap.size w w0):=by rw [← hw0.out,← hg.out];exact ⟨by simp,(Below.refl _ _).alloc (Nat.le_refl _) _⟩
 have HC:Hid (∀ j,w0.cell? ⟨g,j,none⟩=(w.alloc (.cells #[.int .i64 2,.int .i64 0,.int .i64 0,.int .i64 0,.int .i64 0,.int .i64 note,.bool false,.slice A 0 c,.slice A2 n2 c2] 44)).cell? ⟨w.heap.size,j,none⟩):=by rw [← hw0.out,← hg.out];exact fun _=>rfl
 have B0:w0.cell? ⟨g,0,none⟩=some (.int .i64 2):=by rw [HC.out];simp [go_sem]
 have B7:w0.cell? ⟨g,7,none⟩=some (.slice A 0 c):=by rw [HC.out];simp [go_sem]
 have B8:w0.cell? ⟨g,8,none⟩=some (.slice A2 n2 c2):=by rw [HC.out];simp [go_sem]
 have hgl:g<w0.heap.size:=by have:=H0.out.1;omega
 have hrdw:Rd w0 w.heap.size A2 (n2 * 2) (ints es):=HRD.out.below H0.out.2 (Nat.le_refl _)
 have HRW:=Lib.hid hrdw
 rw [hw0.out,hg.out]
 have HOW0:Hid ((w0.alloc (.cells #[.int .i64 (n2:Int)] 3)).ownsRow w0.heap.size 3 1 (.slice (some ⟨g+1,0,none⟩) 1 1) 1 (ints [(n2:Int)])):=by
  rw [← H0.out.1]
  exact own_new w0 #[.int .i64 (n2:Int)] 3 1 1 _ _ rfl rfl (by unfold maxLen;omega) (Nat.le_refl _)
 obtain ⟨P0,HP0⟩:∃ P,Hid ([(n2:Int)]=P):=⟨_,Lib.hid rfl⟩
 have HJ7:Hid ([(n2:Int)]=P0∧NumW w0 (w0.alloc (.cells #[.int .i64 (n2:Int)] 3)) (.slice (some ⟨g+1,0,none⟩) 1 1) 1 [(n2:Int)]):=⟨HP0.out,rfl,HOW0.out,(Below.refl _ _).alloc (Nat.le_refl _) _⟩
 clear hrdw HRD HC
 go_loopw [3,4] (fun v i wx=>∃ (q n:Nat) (L:List Int),q≤n2∧n≤1+2 * q∧i=.int .i64 q∧(∃ A' c',v=.slice A' n c')∧Hid (L=P0 ++ runN es q∧NumW w0 wx v n L)) (fun _ i _=>n2 - (intOf i).toNat)
 case atStart=>exact ⟨0,1,[(n2:Int)],by omega,by omega,rfl,⟨_,_,rfl⟩,by rw [HJ7.out.1];simp [runN],HJ7.out.2⟩
 case round =>
  clear HOW0 HJ7
  obtain ⟨q,n,L,hq,hnq,rfl,⟨A',c',rfl⟩,HJ⟩:=hrel
  have hn24:n≤24:=by omega
  have HBr:Hid (Below w0.heap.size w0 wr):=HJ.out.2.2.2
  have hB8r:wr.cell? ⟨g,8,none⟩=some (.slice A2 n2 c2):=(HBr.out.cell (p:=⟨g,8,none⟩) hgl).trans B8
  have HOW:Hid (wr.ownsRow w0.heap.size 3 1 (.slice A' n c') n (ints L)):=HJ.out.2.2.1
  by_cases hlt:q<n2
  ·have hlti:(q:Int)<(n2:Int):=by omega
   have hn22:n≤22:=by omega
   obtain ⟨bb,boff,hA,hbn,hcs⟩:=HRW.out.2 (by omega)
   subst hA
   have hl1:2 * q+1<es.length:=by have:=HSP.out.1;omega
   obtain ⟨s0,s1,s2,s3⟩:=HSP.out.2 q hlt
   obtain ⟨x,hx⟩:∃ x,Hid (es.getD (2 * q) 0=x):=⟨_,rfl⟩
   obtain ⟨y,hy⟩:∃ y,Hid (es.getD (2 * q+1) 0=y):=⟨_,rfl⟩
   obtain ⟨z,hz⟩:∃ z,Hid (es.getD (2 * (q - 1)) 0=z):=⟨_,rfl⟩
   have hzm:0<q→z≤4611686018427387903:=fun h0=>by obtain ⟨_,t1,t2,_⟩:=HSP.out.2 (q - 1) (by omega);rw [hz.out] at t1;omega
   rw [hx.out] at s0 s1
   rw [hy.out] at s1 s2 s3
   rw [hz.out] at s3
   have hb0:bb<w0.heap.size:=by have:=H0.out.2.size;omega
   have hcx:wr.cell? ⟨bb,boff+q * 2,none⟩=some (.int .i64 x):=by
    rw [HBr.out.cell (p:=⟨bb,boff+q * 2,none⟩) hb0,show boff+q * 2=boff+2 * q by omega,hcs (2 * q) _ (ints_get es _ (by omega)),hx.out]
   have hcy:wr.cell? ⟨bb,boff+q * 2+1,none⟩=some (.int .i64 y):=by
    rw [HBr.out.cell (p:=⟨bb,boff+q * 2+1,none⟩) hb0,show boff+q * 2+1=boff+(2 * q+1) by omega,hcs (2 * q+1) _ (ints_get es _ (by omega)),hy.out]
   have HCZ:Hid (0<q→w0.cell? ⟨bb,boff+(q - 1) * 2,none⟩=some (.int .i64 z)):=fun h0=>by
    rw [show boff+(q - 1) * 2=boff+2 * (q - 1) by omega,hcs (2 * (q - 1)) _ (ints_get es _ (by omega)),hz.out]
   have hyx:Hid (runN es (q+1)=runN es q ++ [runG es q] ++ [y - x]):=by show runN es q ++ _=_;rw [hx.out,hy.out];simp
   clear hcs
   have HX:Hid (Below w0.heap.size w0 (wr.alloc (.cells #[.int .i64 x,.int .i64 y] 67))):=HBr.out.alloc HBr.out.size _
   have HOa:Hid ((wr.alloc (.cells #[.int .i64 x,.int .i64 y] 67)).ownsRow w0.heap.size 3 1 (.slice A' n c') n (ints L)):=HOW.out.alloc _
   have hba:Hid (∀ o:Obj,w0.heap.size≤((wr.alloc (.cells #[.int .i64 x,.int .i64 y] 67)).alloc o).heap.size):=fun o=>by have:=HX.out.size;simp only [World.size_alloc] at *;omega
   have hne:Hid ((Value.slice A' n c').ownBlock≠some wr.heap.size):=fun e=>by have:=(HOW.out.lt _ e).2;omega
   have HPUSH:Hid (∀ (v:Int) (A1:Option Addr) (c1:Nat) (w1 wB:World),wB.heap.size=wr.heap.size+1→Below (wr.heap.size+1) (wr.alloc (.cells #[.int .i64 x,.int .i64 y] 67)) wB→Below w0.heap.size w0 wB→v=runG es q→w1.ownsRow w0.heap.size 3 1 (.slice A1 (n+1) c1) (n+1) (ints L ++ ints [v])→∀ o:Obj,(wB.alloc o).grownBy w1 (Value.slice A' n c').ownBlock→NumW w0 w1 (.slice A1 (n+1) c1) (n+1) (L ++ [v])∧w1.heap[wr.heap.size]?=some (.cells #[.int .i64 x,.int .i64 y] 67 (0,0))∧L ++ [v]=P0 ++ runN es q ++ [runG es q]∧wr.heap.size+1<w1.heap.size):=fun v A1 c1 w1 wB hs hB hB0 hv ho o hg=>by
    have hbo:w0.heap.size≤(wB.alloc o).heap.size:=by have:=HBr.out.size;simp only [World.size_alloc];omega
    refine ⟨⟨by rw [List.length_append,HJ.out.2.1];rfl,by rw [ints_app];exact ho,(hB0.alloc hB0.size _).grown hg hbo (fun g hg=>(HOW.out.lt g hg).1)⟩,?_,by rw [HJ.out.1,hv],?_⟩
    ·rw [hg.block wr.heap.size (by simp only [World.size_alloc];omega) (fun e=>hne.out e.symm)]
     refine (((Below.refl _ _).alloc (Nat.le_refl _) _).block wr.heap.size (by omega)).trans ?_
     rw [hB.block wr.heap.size (by omega)]
     exact heap_alloc_new _ _
    ·have:=hg.size;simp only [World.size_alloc] at this;omega
   have HEND:Hid (∀ (v:Int) (A1:Option Addr) (c1:Nat) (w1:World) (A2':Option Addr) (c2':Nat) (w2:World),NumW w0 w1 (.slice A1 (n+1) c1) (n+1) (L ++ [v])→L ++ [v]=P0 ++ runN es q ++ [runG es q]→w2.ownsRow w0.heap.size 3 1 (.slice A2' (n+1+1) c2') (n+1+1) (ints (L ++ [v]) ++ ints [y - x])→∀ o:Obj,(w1.alloc o).grownBy w2 (Value.slice A1 (n+1) c1).ownBlock→(L ++ [v] ++ [y - x]=P0 ++ runN es (q+1)∧NumW w0 w2 (.slice A2' (n+1+1) c2') (n+1+1) (L ++ [v] ++ [y - x]))):=fun v A1 c1 w1 A2' c2' w2 hN hL ho o hg=>by
    have hbo:w0.heap.size≤(w1.alloc o).heap.size:=by have:=hN.2.2.size;simp only [World.size_alloc];omega
    refine ⟨by rw [hyx.out,hL];simp,by rw [List.length_append,hN.1];rfl,by rw [ints_app (L ++ [v])];exact ho,(hN.2.2.alloc hN.2.2.size _).grown hg hbo (fun g hg=>(hN.2.1.lt g hg).1)⟩
   by_cases h0:q=0
   ·have hk0:((q:Int) == 0)=true:=by rw [h0];rfl
    have HG:Hid (y=runG es q):=by show _=_;rw [← hy.out,h0];rfl
    clear h0
    go_wp2_with (at_builtin;refine wpList_app _ rfl (.tmp 28) (.tmp 31) 46 rfl w0.heap.size 3 iI (.int .i64 0) 1 8 Tryd.underlying46 HI.out.1 HI.out.2.1 HI.out.2.2.1 HI.out.2.2.2 rfl (by decide) (.slice A' n c') n (ints L) rfl (HOa.out.alloc _) ((wr.alloc (.cells #[.int .i64 x,.int .i64 y] 67)).heap.size+1) (some ⟨(wr.alloc (.cells #[.int .i64 x,.int .i64 y] 67)).heap.size,0,none⟩) 1 1 (ints [y]) (by simp [Act.eval]) (rd_new _ _ _ _ _ _ _ rfl (by omega) rfl rfl) (ones_ints _) (by unfold maxLen;omega) (by omega) (hba.out _) ?_)
    intro v1 w1 hown1 hgrow1
    obtain ⟨A1,c1,e1,_⟩:=own_form hown1
    subst e1
    have HP:=Lib.hid (HPUSH.out y A1 c1 w1 (wr.alloc (.cells #[.int .i64 x,.int .i64 y] 67)) (by simp) (Below.refl _ _) HX.out HG.out hown1 _ hgrow1)
    obtain ⟨v,hv⟩:∃ v,Hid (y=v):=⟨_,rfl⟩
    clear hown1 hgrow1
    have HO1:Hid (w1.ownsRow w0.heap.size 3 1 (.slice A1 (n+1) c1) (n+1) (ints (L ++ [y]))):=HP.out.1.2.1
    obtain ⟨hx1,hy1⟩:w1.cell? ⟨wr.heap.size,0,none⟩=some (.int .i64 x)∧w1.cell? ⟨wr.heap.size,1,none⟩=some (.int .i64 y):=⟨by rw [Am.cell_of w1 _ 0 _ _ (0,0) HP.out.2.1];rfl,by rw [Am.cell_of w1 _ 1 _ _ (0,0) HP.out.2.1];rfl⟩
    have hb1:Hid (w0.heap.size≤(w1.alloc (.cells #[.int .i64 (y - x)] 3)).heap.size):=by have:=HP.out.1.2.2.size;show _≤_;simp only [World.size_alloc];omega
    go_wp2_with (at_builtin;refine wpList_app _ rfl (.tmp 46) (.tmp 52) 46 rfl w0.heap.size 3 iI (.int .i64 0) 1 8 Tryd.underlying46 HI.out.1 HI.out.2.1 HI.out.2.2.1 HI.out.2.2.2 rfl (by decide) (.slice A1 (n+1) c1) (n+1) (ints (L ++ [y])) rfl (HO1.out.alloc _) (w1.heap.size+1) (some ⟨w1.heap.size,0,none⟩) 1 1 (ints [y - x]) (by simp [Act.eval]) (rd_new _ _ _ _ _ _ _ rfl (by omega) rfl rfl) (ones_ints _) (by unfold maxLen;omega) (by omega) hb1.out ?_)
    intro v2 w2 hown2 hgrow2
    obtain ⟨A3,c3,e3,_⟩:=own_form hown2
    subst e3
    have HN:=Lib.hid (HEND.out y A1 c1 w1 A3 c3 w2 HP.out.1 HP.out.2.2.1 hown2 _ hgrow2)
    clear hown2 hgrow2
    go_wp2_with fail
    go_roundw
    case rel=>exact ⟨q+1,n+1+1,_,by omega,by omega,by go_num,⟨_,_,rfl⟩,HN⟩
    case measure=>simp [intOf];omega
   ·have hk0:((q:Int) == 0)=false:=by simp;omega
    have hq0:0<q:=by omega
    have hcz0:=HCZ.out hq0
    have s3':=s3 hq0
    have hzm':=hzm hq0
    have HG:Hid (z - y=runG es q):=by show _=_;unfold runG;rw [if_neg h0,hz.out,hy.out]
    clear h0 s3 hzm
    have HS:Hid (∀ W,Below (wr.heap.size+1) (wr.alloc (.cells #[.int .i64 x,.int .i64 y] 67)).drew W→W.cell? ⟨g,8,none⟩=some (.slice (some ⟨bb,boff,none⟩) n2 c2)∧W.cell? ⟨bb,boff+(q - 1) * 2,none⟩=some (.int .i64 z)∧W.cell? ⟨wr.heap.size,1,none⟩=some (.int .i64 y)):=fun W hW=>by
     have h1:Below (w0.heap.size) w0 W:=HX.out.drew.trans (hW.mono (show w0.heap.size≤wr.heap.size+1 by have:=HBr.out.size;omega))
     refine ⟨(h1.cell (p:=⟨g,8,none⟩) hgl).trans B8,(h1.cell (p:=⟨bb,boff+(q - 1) * 2,none⟩) hb0).trans hcz0,?_⟩
     rw [hW.cell (p:=⟨wr.heap.size,1,none⟩) (Nat.lt_succ_self _)]
     have h2:(wr.alloc (.cells #[.int .i64 x,.int .i64 y] 67)).drew.heap[wr.heap.size]?=some (.cells #[.int .i64 x,.int .i64 y] 67 (0,0)):=heap_alloc_new _ _
     rw [Am.cell_of _ _ 1 _ _ (0,0) h2];rfl
    have e1:IntKind.i64.wrap ((q:Int) - 1)=((q - 1:Nat):Int):=by rw [show ((q - 1:Nat):Int)=(q:Int) - 1 by omega];exact IntWalk.i64_in _ (by omega)
    have e2:IntKind.i64.wrap (z - y)=z - y:=IntWalk.i64_in _ (by omega)
    have hk1:q - 1<n2:=by omega
    have hk1':((q - 1:Nat):Int)<(n2:Int):=by omega
    go_wp2_with fail
    refine wp_region_held_drew (S:=fun W'=>W'.cell? ⟨g,8,none⟩=some (.slice (some ⟨bb,boff,none⟩) n2 c2)∧W'.cell? ⟨bb,boff+(q - 1) * 2,none⟩=some (.int .i64 z)∧W'.cell? ⟨wr.heap.size,1,none⟩=some (.int .i64 y)) (by kernel_rfl) ?_ (fun hHeld=>?_)
    ·exact HS.out _ (Below.refl _ _)
    refine wpAnyH_take (i:=0) (v:=?_) rfl (by kernel_rfl) (by kernel_rfl) (by kernel_rfl) (fun _ _ _ h=>h) (Or.inl ⟨by rfl,?_⟩) (by assumption) ?_
    rotate_left
    ·intro w hSw;(try dsimp only at hSw);go_simp;try with_reducible rfl
    go_simp
    refine wpAnyH_take (i:=1) (v:=?_) rfl (by kernel_rfl) (by kernel_rfl) (by kernel_rfl) (fun _ _ _ h=>h) (Or.inl ⟨by rfl,?_⟩) (by assumption) ?_
    rotate_left
    ·intro w hSw;(try dsimp only at hSw);go_simp;try with_reducible rfl
    go_simp
    refine wpAnyH_take (i:=2) (v:=?_) rfl (by kernel_rfl) (by kernel_rfl) (by kernel_rfl) (fun _ _ _ h=>h) (Or.inl ⟨by rfl,?_⟩) (by assumption) ?_
    rotate_left
    ·intro w hSw;(try dsimp only at hSw);go_simp;try with_reducible rfl
    go_simp
    refine wpAnyH_take (i:=3) (v:=?_) rfl (by kernel_rfl) (by kernel_rfl) (by kernel_rfl) (fun _ _ _ h=>h) (Or.inl ⟨by rfl,?_⟩) (by assumption) ?_
    rotate_left
    ·intro w hSw;(try dsimp only at hSw);go_simp;try with_reducible rfl
    go_simp
    refine wpAnyH_take (i:=4) (v:=?_) rfl (by kernel_rfl) (by kernel_rfl) (by kernel_rfl) (fun _ _ _ h=>h) (Or.inl ⟨by rfl,?_⟩) (by assumption) ?_
    rotate_left
    ·intro w hSw;(try dsimp only at hSw);go_simp;try with_reducible rfl
    go_simp
    refine wpAnyH_take (i:=5) (v:=?_) rfl (by kernel_rfl) (by kernel_rfl) (by kernel_rfl) (fun _ _ _ h=>h) (Or.inl ⟨by rfl,?_⟩) (by assumption) ?_
    rotate_left
    ·intro w hSw;(try dsimp only at hSw);go_simp;try with_reducible rfl
    go_simp
    refine wpAnyH_take (i:=6) (v:=?_) rfl (by kernel_rfl) (by kernel_rfl) (by kernel_rfl) (fun _ _ _ h=>h) (Or.inl ⟨by rfl,?_⟩) (by assumption) ?_
    rotate_left
    ·intro w hSw;(try dsimp only at hSw);go_simp;try with_reducible rfl
    go_simp
    refine wpAnyH_take (i:=7) (v:=?_) rfl (by kernel_rfl) (by kernel_rfl) (by kernel_rfl) (fun _ _ _ h=>h) (Or.inl ⟨by rfl,?_⟩) (by assumption) ?_
    rotate_left
    ·intro w hSw;(try dsimp only at hSw);go_simp;try with_reducible rfl
    go_simp
    refine wpAnyH_take (i:=8) (v:=?_) rfl (by kernel_rfl) (by kernel_rfl) (by kernel_rfl) (fun _ _ _ h=>h) (Or.inl ⟨by rfl,?_⟩) (by assumption) ?_
    rotate_left
    ·intro w hSw;(try dsimp only at hSw);go_simp;try with_reducible rfl
    go_simp
    refine wpAnyH_take (i:=9) (v:=?_) rfl (by kernel_rfl) (by kernel_rfl) (by kernel_rfl) (fun _ _ _ h=>h) (Or.inl ⟨by rfl,?_⟩) (by assumption) ?_
    rotate_left
    ·intro w hSw;(try dsimp only at hSw);go_simp;try with_reducible rfl
    go_simp
    refine wpAnyH_take (i:=10) (v:=?_) rfl (by kernel_rfl) (by kernel_rfl) (by kernel_rfl) (fun _ _ _ h=>h) (Or.inl ⟨by rfl,?_⟩) (by assumption) ?_
    rotate_left
    ·intro w hSw;(try dsimp only at hSw);go_simp;try with_reducible rfl
    go_simp
    refine wpAnyH_ready (rs:=[11]) (by kernel_rfl) (by simp) ?_
    refine AllReadyH.cons rfl (fun K hK=>?_) AllReadyH.nil
    go_simp
    refine hK.out _ _ ?_ (fun hHeld=>?_)
    ·exact HS.out _ ((Below.refl _ _).alloc (by simp) _)
    clear hK K
    go_simp
    refine wpAnyH_ready (rs:=[12]) (by kernel_rfl) (by simp) ?_
    refine AllReadyH.cons rfl (fun K hK=>?_) AllReadyH.nil
    refine step_own rfl (.tmp 33) (.tmp 44) 46 rfl w0.heap.size 3 iI (.int .i64 0) 1 8 Tryd.underlying46 HI.out.1 HI.out.2.1 HI.out.2.2.1 HI.out.2.2.2 rfl (by decide) (.slice A' n c') n (ints L) (by simp [Act.eval,Act.put]) (HOa.out.drew.alloc _) ((wr.alloc (.cells #[.int .i64 x,.int .i64 y] 67)).drew.heap.size+1) (some ⟨(wr.alloc (.cells #[.int .i64 x,.int .i64 y] 67)).drew.heap.size,0,none⟩) 1 1 (ints [z - y]) (by simp [Act.eval,Act.put]) (rd_new _ _ _ _ _ _ _ rfl (Nat.lt_succ_self _) rfl rfl) (ones_ints _) (by unfold maxLen;omega) (by omega) (hba.out _) ?_
    intro v1 w1 hown1 hgrow1
    obtain ⟨A1,c1,e1,_⟩:=own_form hown1
    subst e1
    have HP:=Lib.hid (HPUSH.out (z - y) A1 c1 w1 (wr.alloc (.cells #[.int .i64 x,.int .i64 y] 67)).drew (by simp) ⟨rfl,rfl,rfl,Nat.le_refl _,fun _ _=>rfl⟩ HX.out.drew HG.out hown1 _ hgrow1)
    have HBw1:Hid (Below (wr.heap.size+1) (wr.alloc (.cells #[.int .i64 x,.int .i64 y] 67)) w1∨True):=.inr trivial
    clear hown1 hgrow1
    have HO1:Hid (w1.ownsRow w0.heap.size 3 1 (.slice A1 (n+1) c1) (n+1) (ints (L ++ [z - y]))):=HP.out.1.2.1
    have hx1:w1.cell? ⟨wr.heap.size,0,none⟩=some (.int .i64 x):=by rw [Am.cell_of w1 _ 0 _ _ (0,0) HP.out.2.1];rfl
    have hy1:w1.cell? ⟨wr.heap.size,1,none⟩=some (.int .i64 y):=by rw [Am.cell_of w1 _ 1 _ _ (0,0) HP.out.2.1];rfl
    have hb1:Hid (w0.heap.size≤(w1.alloc (.cells #[.int .i64 (y - x)] 3)).heap.size):=by have:=HP.out.1.2.2.size;show _≤_;simp only [World.size_alloc];omega
    refine hK.out _ _ ?_ (fun hHeld=>?_)
    ·exact ⟨(HP.out.1.2.2.cell (p:=⟨g,8,none⟩) hgl).trans B8,(HP.out.1.2.2.cell (p:=⟨bb,boff+(q - 1) * 2,none⟩) hb0).trans hcz0,hy1⟩
    clear hK K
    go_simp
    refine wpAnyH_take (i:=13) (v:=?_) rfl (by kernel_rfl) (by kernel_rfl) (by kernel_rfl) (fun _ _ _ h=>h) (Or.inl ⟨by rfl,?_⟩) (by assumption) ?_
    rotate_left
    ·intro w hSw;(try dsimp only at hSw);go_simp;try with_reducible rfl
    go_simp
    refine wpAnyH_done (by kernel_rfl) ?_ _
    go_wp2_with (at_builtin;refine wpList_app _ rfl (.tmp 46) (.tmp 52) 46 rfl w0.heap.size 3 iI (.int .i64 0) 1 8 Tryd.underlying46 HI.out.1 HI.out.2.1 HI.out.2.2.1 HI.out.2.2.2 rfl (by decide) (.slice A1 (n+1) c1) (n+1) (ints (L ++ [z - y])) rfl (HO1.out.alloc _) (w1.heap.size+1) (some ⟨w1.heap.size,0,none⟩) 1 1 (ints [y - x]) (by simp [Act.eval]) (rd_new _ _ _ _ _ _ _ rfl (by omega) rfl rfl) (ones_ints _) (by unfold maxLen;omega) (by omega) hb1.out ?_)
    intro v2 w2 hown2 hgrow2
    obtain ⟨A3,c3,e3,_⟩:=own_form hown2
    subst e3
    have HN:=Lib.hid (HEND.out (z - y) A1 c1 w1 A3 c3 w2 HP.out.1 HP.out.2.2.1 hown2 _ hgrow2)
    clear hown2 hgrow2
    go_wp2_with fail
    go_roundw
    case rel=>exact ⟨q+1,n+1+1,_,by omega,by omega,by go_num,⟨_,_,rfl⟩,HN⟩
    case measure=>simp [intOf];omega
  ·have hlti:¬ (q:Int)<(n2:Int):=by omega
   obtain rfl:q=n2:=by omega
   have HL:Hid (∀ W,Below wr.heap.size wr W→Rd W wr.heap.size A' L.length (ints L)):=fun W hW=>by
    obtain ⟨A9,c9,e9,_,_,_,h9⟩:=own_form HOW.out
    simp only [Value.slice.injEq] at e9
    obtain ⟨rfl,_,rfl⟩:=e9
    rw [Nat.mul_one] at h9
    rw [HJ.out.2.1]
    exact h9.below hW (Nat.le_refl _)
   have HWr:Hid (Below w.heap.size w wr):=H0.out.2.trans (HBr.out.mono H0.out.2.size)
   have HLE:Hid (L=(q:Int) :: runN es q):=by rw [HJ.out.1,← HP0.out];rfl
   have HLM:Hid (allMay L):=by rw [HLE.out];exact HM.out
   obtain rfl:L.length=n:=HJ.out.2.1
   have HSW:Hid (sumW L≤8 * L.length):=sumW_le _
   have HE9:Hid (ones (encs [2])):=ones_encs _
   have HS:Hid (∀ W,Below wr.heap.size wr W→Below wr.heap.size wr W∧W.cell? ⟨g,0,none⟩=some (.int .i64 2)∧W.cell? ⟨g,7,none⟩=some (.slice A 0 c)):=fun W hW=>by
    have hh:Below w0.heap.size w0 W:=HBr.out.trans (hW.mono HBr.out.size)
    exact ⟨hW,(hh.cell (p:=⟨g,0,none⟩) hgl).trans B0,(hh.cell (p:=⟨g,7,none⟩) hgl).trans B7⟩
   go_wp2_with fail
   refine wp_region_noPanic ?_
   refine wp_region_held_drew (S:=(fun W=>Below wr.heap.size wr W∧W.cell? ⟨g,0,none⟩=some (.int .i64 2)∧W.cell? ⟨g,7,none⟩=some (.slice A 0 c))) (by kernel_rfl) ?_ (fun hHeld=>?_)
   ·exact HS.out _ (Below.refl _ _).drew
   refine wpAnyH_take (i:=0) (v:=?_) rfl (by kernel_rfl) (by kernel_rfl) (by kernel_rfl) (fun _ _ _ h=>h) (Or.inl ⟨by rfl,?_⟩) (by assumption) ?_
   rotate_left
   ·intro w hSw;(try dsimp only at hSw);go_simp;try with_reducible rfl
   go_simp
   refine wpAnyH_take (i:=1) (v:=?_) rfl (by kernel_rfl) (by kernel_rfl) (by kernel_rfl) (fun _ _ _ h=>h) (Or.inl ⟨by rfl,?_⟩) (by assumption) ?_
   rotate_left
   ·intro w hSw;(try dsimp only at hSw);go_simp;try with_reducible rfl
   go_simp
   refine wpAnyH_take (i:=4) (v:=?_) rfl (by kernel_rfl) (by kernel_rfl) (by kernel_rfl) (fun _ _ _ h=>h) (Or.inl ⟨by rfl,?_⟩) (by assumption) ?_
   rotate_left
   ·intro w hSw;(try dsimp only at hSw);go_simp;try with_reducible rfl
   go_simp
   refine wpAnyH_take (i:=6) (v:=?_) rfl (by kernel_rfl) (by kernel_rfl) (by kernel_rfl) (fun _ _ _ h=>h) (Or.inl ⟨by rfl,?_⟩) (by assumption) ?_
   rotate_left
   ·intro w hSw;(try dsimp only at hSw);go_simp;try with_reducible rfl
   go_simp
   refine wpAnyH_take (i:=7) (v:=?_) rfl (by kernel_rfl) (by kernel_rfl) (by kernel_rfl) (fun _ _ _ h=>h) (Or.inl ⟨by rfl,?_⟩) (by assumption) ?_
   rotate_left
   ·intro w hSw;(try dsimp only at hSw);go_simp;try with_reducible rfl
   go_simp
   refine wpAnyH_ready (rs:=[2]) (by kernel_rfl) (by simp) ?_
   refine AllReadyH.cons rfl (fun K hK=>?_) AllReadyH.nil
   go_simp
   refine hK.out _ _ ?_ (fun hHeld=>?_)
   ·exact HS.out _ ((Below.refl _ _).drew.alloc (Nat.le_refl _) _)
   clear hK K
   go_simp
   refine wpAnyH_ready (rs:=[3]) (by kernel_rfl) (by simp) ?_
   refine AllReadyH.cons rfl (fun K hK=>?_) AllReadyH.nil
   go_simp
   refine (Rv.rPut_ok none 0 0 [] 0 [2] (wr.heap.size+1) (some ⟨wr.heap.size,0,none⟩) 1 _ (Rd.nil _ _ _) (Nat.zero_le _) (by simp [ones]) (Rd.drew (rd_new wr #[.int .i64 2] _ _ _ _ _ rfl (by simp) rfl rfl)) (by simp) (by decide) (by decide) (by decide)).mono ?_
   rintro e w4 ⟨v4,rfl,ho4,hb4⟩
   rw [show 0+sumW [2]=1 by decide,List.nil_append] at ho4
   have HB4:Hid (Below wr.heap.size wr w4):=((Below.refl _ _).alloc (Nat.le_refl _) _).drew.trans (hb4.mono (by simp))
   obtain ⟨A4,c4,rfl,_,_,_,hr4⟩:=own_form ho4
   rw [show 1 * 1=1 from rfl] at hr4
   have HP4:=Lib.hid hr4
   clear ho4 hb4 hr4
   refine hK.out _ _ ?_ (fun hHeld=>?_)
   ·exact HS.out _ HB4.out
   clear hK K
   go_simp
   refine wpAnyH_ready (rs:=[5]) (by kernel_rfl) (by simp) ?_
   refine AllReadyH.cons rfl (fun K hK=>?_) AllReadyH.nil
   go_simp
   refine (Rv.rPut_ok A4 1 c4 (encs [2]) w4.heap.size L wr.heap.size A' c' w4 HP4.out (Nat.le_refl _) HE9.out (HL.out w4 HB4.out) HB4.out.size (by omega) HLM.out (by have:=HSW.out;omega)).mono ?_
   rintro e w5 ⟨v5,rfl,ho5,hb5⟩
   have HB5:Hid (Below wr.heap.size wr w5):=HB4.out.trans (hb5.mono HB4.out.size)
   have HO5:=Lib.hid (own_base ho5 HB4.out.size)
   clear hb5 ho5
   refine hK.out _ _ ?_ (fun hHeld=>?_)
   ·exact HS.out _ HB5.out
   clear hK K
   go_simp
   refine wpAnyH_ready (rs:=[8]) (by kernel_rfl) (by simp) ?_
   refine AllReadyH.cons rfl (fun K hK=>?_) AllReadyH.nil
   refine step_own rfl (.tmp 117) (.tmp 119) 24 rfl wr.heap.size 5 i0 (.int .u8 0) 1 1 Tryd.underlying24 HI8.out.1 HI8.out.2.1 HI8.out.2.2.1 HI8.out.2.2.2 rfl (by decide) v5 (1+sumW L) (encs [2] ++ encs L) (by simp [Act.eval,Act.put]) HO5.out w.heap.size A 0 c [] (by simp [Act.eval,Act.put]) (Rd.nil _ _ _) (by simp [ones]) (by have:=HSW.out;unfold maxLen;omega) (by have:=HSW.out;omega) HB5.out.size ?_
   intro v6 w6 ho6 hg6
   have HB6:Hid (Below wr.heap.size wr w6):=HB5.out.grown hg6 HB5.out.size (fun g hg=>(HO5.out.lt g hg).1)
   rw [List.append_nil,Nat.add_zero] at ho6
   have HO6:=Lib.hid (own_base ho6 HWr.out.size)
   clear ho6 hg6
   refine hK.out _ _ ?_ (fun hHeld=>?_)
   ·exact HS.out _ HB6.out
   clear hK K
   go_simp
   refine wpAnyH_take (i:=9) (v:=?_) rfl (by kernel_rfl) (by kernel_rfl) (by kernel_rfl) (fun _ _ _ h=>h) (Or.inl ⟨by rfl,?_⟩) (by assumption) ?_
   rotate_left
   ·intro w hSw;(try dsimp only at hSw);go_simp;try with_reducible rfl
   go_simp
   refine wpAnyH_done (by kernel_rfl) ?_ _
   refine NoPanic.normal ?_
   go_wp2_with fail
   go_ret
   rw [HLE.out] at HO6
   exact ⟨_,rfl,HO6.out,HWr.out.trans (HB6.out.mono HWr.out.size)⟩
end Go.Proofs.YtccljifichaieaaDoor
