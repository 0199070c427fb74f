/- Joined texts. Conditions: as each theorem lists them. -/
import Derived.Test.YtoahkffdoaphlaaJRv
import Derived.BigQuiet
import Derived.Outline
import Derived.Deep.RegionHeld3
set_option linter.unusedSimpArgs false
set_option linter.unusedVariables false
set_option maxRecDepth 100000
set_option maxHeartbeats 80000000
namespace Go.Proofs.Ytoahkffdoaphlaa
open Go Go.RowKit
theorem rn_at (k:Int) (l:Array Value) (w:World) (h1:1≤k) (h2:k≤12) (h:rnA k=l):Calls Try.prog 112 #[.int .i64 k] w fun e w'=>e=.returned (.agg l)∧Below w.heap.size w w':=by
 rw [← h];exact rnames_any k w h1 h2
theorem rright_3 (id off a b note:Int) (fin:Bool) (A:Option Addr) (n c:Nat) (A2:Option Addr) (n2 c2:Nat) (w:World) (hid:wid id≠0) (hoff:wid off≠0) (ha:wid a≠0) (hb:wid b≠0) (hn:n≤120) (hro:off+n≤4611686018427387903) :
  Calls Try.prog 103 #[.agg #[.int .i64 3,.int .i64 id,.int .i64 off,.int .i64 0,.int .i64 0,.int .i64 note,.bool fin,.slice A n c,.slice A2 0 c2]] w fun e w'=>e=.returned (.bool true)∧Below w.heap.size w w':=by
 have M0:=Lib.hid (fun W=>Rv.may_t 0 W wid0)
 have M1:=Lib.hid (fun W=>Rv.may_t id W hid)
 have M2:=Lib.hid (fun W=>Rv.may_t off W hoff)
 have M3:=Lib.hid (fun W=>Rv.may_t a W ha)
 have M4:=Lib.hid (fun W=>Rv.may_t b W hb)
 have NA:=Lib.hid (fun W=>rn_at 3 #[.bool true,.bool true,.bool false,.bool false,.bool true,.bool true,.bool false] W (by decide) (by decide) rfl)
 have hni:¬ (120:Int)<(n:Int):=by omega
 clear hid hoff ha hb
 go_enter Try.func103,Try.ntmps103
 go_wp2_with (go_at_call 52;(with_reducible first | refine (M1.out _).mono ?_ | refine (M2.out _).mono ?_ | refine (M3.out _).mono ?_ | refine (M4.out _).mono ?_ | refine (M0.out _).mono ?_);rintro e w' ⟨rfl,rfl⟩)
 refine (NA.out _).mono ?_
 rintro e w1 ⟨rfl,hb1⟩
 have HB1:Hid (Below w.heap.size w w1):=((Below.refl _ _).alloc (Nat.le_refl _) _).trans (hb1.mono (by simp))
 have hx:w1.heap[w.heap.size]?=some (.cells #[.int .i64 3,.int .i64 id,.int .i64 off,.int .i64 0,.int .i64 0,.int .i64 note,.bool fin,.slice A n c,.slice A2 0 c2] 54 (0,0)):=(hb1.block _ (by simp)).trans (heap_alloc_new _ _)
 have hx2:(w1.alloc (.cells #[.bool true,.bool true,.bool false,.bool false,.bool true,.bool true,.bool false] 126)).heap[w.heap.size]?=some (.cells #[.int .i64 3,.int .i64 id,.int .i64 off,.int .i64 0,.int .i64 0,.int .i64 note,.bool fin,.slice A n c,.slice A2 0 c2] 54 (0,0)):=(((Below.refl w1.heap.size w1).alloc (Nat.le_refl _) _).block _ (Array.getElem?_eq_some_iff.1 hx).1).trans hx
 have y0:=cell_of_row _ _ 0 _ _ _ hx2
 have y1:=cell_of_row _ _ 1 _ _ _ hx2
 have y2:=cell_of_row _ _ 2 _ _ _ hx2
 have y3:=cell_of_row _ _ 3 _ _ _ hx2
 have y4:=cell_of_row _ _ 4 _ _ _ hx2
 have y6:=cell_of_row _ _ 6 _ _ _ hx2
 have y7:=cell_of_row _ _ 7 _ _ _ hx2
 have y8:=cell_of_row _ _ 8 _ _ _ hx2
 have HB2:Hid (Below w.heap.size w (w1.alloc (.cells #[.bool true,.bool true,.bool false,.bool false,.bool true,.bool true,.bool false] 126))):=HB1.out.alloc HB1.out.size _
 clear hb1 hx hx2
 go_wp2_with fail
 go_ret
 exact ⟨ret_bool (by simp;try omega),HB2.out⟩
theorem rlay_3 (id off a b note:Int) (fin:Bool) (data:List Nat) (A:Option Addr) (n c:Nat) (A2:Option Addr) (n2 c2:Nat) (w:World) (hm:allMay [id,off,(bitI fin),(n:Int)]) (hx:Rd w w.heap.size A n (bv data)) (hn:n≤120) :
  Calls Try.prog 104 #[.agg #[.int .i64 3,.int .i64 id,.int .i64 off,.int .i64 0,.int .i64 0,.int .i64 note,.bool fin,.slice A n c,.slice A2 0 c2]] w fun e w'=>∃ v',e=.returned v'∧w'.ownsRow w.heap.size 5 1 v' (1+sumW [id,off,(bitI fin),(n:Int)]+n) (encs [3] ++ encs [id,off,(bitI fin),(n:Int)] ++ bv data)∧Below w.heap.size w w':=by
 have HM:=Lib.hid hm
 have hX0:=Lib.hid hx
 have HE9:Hid (ones (encs [3])):=ones_encs _
 have HSW:Hid (sumW [id,off,(bitI fin),(n:Int)]≤8 * 4):=sumW_le _
 obtain ⟨i0,hi,hz0,hz1,hz2⟩:=info_parts infoB
 have HI:=Lib.hid (And.intro hi (And.intro hz0 (And.intro hz1 hz2)))
 have HBT:Hid (∀ W,Calls Try.prog 114 #[.bool fin] W fun e w'=>e=.returned (.int .i64 (bitI fin))∧W=w'):=by
  intro W
  cases fin <;> (go_enter Try.func114,Try.ntmps114;go_wp2_with fail;go_ret;exact ⟨rfl,rfl⟩)
 clear hm hx hi hz0 hz1 hz2
 go_enter Try.func104,Try.ntmps104
 go_wp2_with fail
 obtain ⟨w1,hw1⟩:∃ x,Hid (x=w.alloc (.cells #[.int .i64 3,.int .i64 id,.int .i64 off,.int .i64 0,.int .i64 0,.int .i64 note,.bool fin,.slice A n c,.slice A2 0 c2] 54)):=⟨_,Lib.hid rfl⟩
 rw [← hw1.out]
 have HW1:Hid (Below w.heap.size w w1):=by rw [hw1.out];exact Lib.hid ((Below.refl _ _).alloc (Nat.le_refl _) _)
 have hlt:Hid (w.heap.size<w1.heap.size):=Lib.hid (by rw [hw1.out];simp)
 have HS:Hid (∀ W,Below w1.heap.size w1 W→Below w1.heap.size w1 W∧W.cell? ⟨w.heap.size,1,none⟩=some (.int .i64 id)∧W.cell? ⟨w.heap.size,2,none⟩=some (.int .i64 off)∧W.cell? ⟨w.heap.size,6,none⟩=some (.bool fin)∧W.cell? ⟨w.heap.size,7,none⟩=some (.slice A n c)):=by
  intro W hW
  refine ⟨hW,?_,?_,?_,?_⟩ <;> (rw [hW.cell hlt.out,hw1.out];exact World.cell?_alloc_at _ _ _ _ rfl)
 have HC:Hid (∀ W,Below w1.heap.size w1 W→W.cell? ⟨w.heap.size,0,none⟩=some (.int .i64 3)∧W.cell? ⟨w.heap.size,7,none⟩=some (.slice A n c)):=by
  intro W hW
  refine ⟨?_,?_⟩ <;> (rw [hW.cell hlt.out,hw1.out];exact World.cell?_alloc_at _ _ _ _ rfl)
 clear hw1
 refine wp_region_held_drew (S:=(fun W=>Below w1.heap.size w1 W∧W.cell? ⟨w.heap.size,1,none⟩=some (.int .i64 id)∧W.cell? ⟨w.heap.size,2,none⟩=some (.int .i64 off)∧W.cell? ⟨w.heap.size,6,none⟩=some (.bool fin)∧W.cell? ⟨w.heap.size,7,none⟩=some (.slice A n c))) (by kernel_rfl) ?_ (fun hHeld=>?_)
 ·exact HS.out _ (Below.refl _ _).drew
 refine wpAnyH_take (i:=0) (v:=?_) rfl (by kernel_rfl) (by kernel_rfl) (by kernel_rfl) (fun _ _ _ h=>h) (Or.inl ⟨by rfl,?_⟩) (by assumption) ?_
 rotate_left
 ·intro w hSw;(try dsimp only at hSw);go_simp;try with_reducible rfl
 go_simp
 refine wpAnyH_take (i:=1) (v:=?_) rfl (by kernel_rfl) (by kernel_rfl) (by kernel_rfl) (fun _ _ _ h=>h) (Or.inl ⟨by rfl,?_⟩) (by assumption) ?_
 rotate_left
 ·intro w hSw;(try dsimp only at hSw);go_simp;try with_reducible rfl
 go_simp
 refine wpAnyH_take (i:=2) (v:=?_) rfl (by kernel_rfl) (by kernel_rfl) (by kernel_rfl) (fun _ _ _ h=>h) (Or.inl ⟨by rfl,?_⟩) (by assumption) ?_
 rotate_left
 ·intro w hSw;(try dsimp only at hSw);go_simp;try with_reducible rfl
 go_simp
 refine wpAnyH_take (i:=3) (v:=?_) rfl (by kernel_rfl) (by kernel_rfl) (by kernel_rfl) (fun _ _ _ h=>h) (Or.inl ⟨by rfl,?_⟩) (by assumption) ?_
 rotate_left
 ·intro w hSw;(try dsimp only at hSw);go_simp;try with_reducible rfl
 go_simp
 refine wpAnyH_take (i:=4) (v:=?_) rfl (by kernel_rfl) (by kernel_rfl) (by kernel_rfl) (fun _ _ _ h=>h) (Or.inl ⟨by rfl,?_⟩) (by assumption) ?_
 rotate_left
 ·intro w hSw;(try dsimp only at hSw);go_simp;try with_reducible rfl
 go_simp
 refine wpAnyH_take (i:=5) (v:=?_) rfl (by kernel_rfl) (by kernel_rfl) (by kernel_rfl) (fun _ _ _ h=>h) (Or.inl ⟨by rfl,?_⟩) (by assumption) ?_
 rotate_left
 ·intro w hSw;(try dsimp only at hSw);go_simp;try with_reducible rfl
 go_simp
 refine wpAnyH_take (i:=7) (v:=?_) rfl (by kernel_rfl) (by kernel_rfl) (by kernel_rfl) (fun _ _ _ h=>h) (Or.inl ⟨by rfl,?_⟩) (by assumption) ?_
 rotate_left
 ·intro w hSw;(try dsimp only at hSw);go_simp;try with_reducible rfl
 go_simp
 refine wpAnyH_take (i:=8) (v:=?_) rfl (by kernel_rfl) (by kernel_rfl) (by kernel_rfl) (fun _ _ _ h=>h) (Or.inl ⟨by rfl,?_⟩) (by assumption) ?_
 rotate_left
 ·intro w hSw;(try dsimp only at hSw);go_simp;try with_reducible rfl
 go_simp
 refine wpAnyH_take (i:=9) (v:=?_) rfl (by kernel_rfl) (by kernel_rfl) (by kernel_rfl) (fun _ _ _ h=>h) (Or.inl ⟨by rfl,?_⟩) (by assumption) ?_
 rotate_left
 ·intro w hSw;(try dsimp only at hSw);go_simp;try with_reducible rfl
 go_simp
 refine wpAnyH_ready (rs:=[6]) (by kernel_rfl) (by simp) ?_
 refine AllReadyH.cons rfl (fun K hK=>?_) AllReadyH.nil
 go_simp
 refine (HBT.out _).mono ?_
 rintro e w' ⟨rfl,rfl⟩
 refine hK.out _ _ ?_ (fun hHeld=>?_)
 ·exact HS.out _ (Below.refl _ _).drew
 clear hK K
 go_simp
 refine wpAnyH_ready (rs:=[10]) (by kernel_rfl) (by simp) ?_
 refine AllReadyH.cons rfl (fun K hK=>?_) AllReadyH.nil
 go_simp
 refine hK.out _ _ ?_ (fun hHeld=>?_)
 ·exact HS.out _ ((Below.refl _ _).drew.alloc (Nat.le_refl _) _)
 clear hK K
 go_simp
 refine wpAnyH_take (i:=11) (v:=?_) rfl (by kernel_rfl) (by kernel_rfl) (by kernel_rfl) (fun _ _ _ h=>h) (Or.inl ⟨by rfl,?_⟩) (by assumption) ?_
 rotate_left
 ·intro w hSw;(try dsimp only at hSw);go_simp;try with_reducible rfl
 go_simp
 refine wpAnyH_done (by kernel_rfl) ?_ _
 go_wp2_with fail
 obtain ⟨w3,hw3⟩:∃ x,Hid (x=(w1.alloc (.cells #[.int .i64 id,.int .i64 off,.int .i64 (bitI fin),.int .i64 (n:Int)] 3)).drew):=⟨_,Lib.hid rfl⟩
 rw [← hw3.out]
 have HB3:Hid (Below w1.heap.size w1 w3):=by rw [hw3.out];exact Lib.hid (((Below.refl _ _).alloc (Nat.le_refl _) _).drew)
 have HL:Hid (∀ W,Below w3.heap.size w3 W→Rd W w3.heap.size (some ⟨w1.heap.size,0,none⟩) 4 (ints [id,off,(bitI fin),(n:Int)])):=fun W hW=>Rd.below (by rw [hw3.out];exact Rd.drew (rd_new _ _ _ _ _ _ _ rfl (by simp) rfl rfl)) hW (Nat.le_refl _)
 have HW:Hid (Below w.heap.size w w3):=HW1.out.trans (HB3.out.mono HW1.out.size)
 have HX:Hid (∀ W,Below w3.heap.size w3 W→Rd W w.heap.size A n (bv data)):=fun W hW=>(hX0.out.below HW.out (Nat.le_refl _)).below hW HW.out.size
 have HS2:Hid (∀ W,Below w3.heap.size w3 W→Below w3.heap.size w3 W∧W.cell? ⟨w.heap.size,0,none⟩=some (.int .i64 3)∧W.cell? ⟨w.heap.size,7,none⟩=some (.slice A n c)):=fun W hW=>by
  have hh:=HC.out W (HB3.out.trans (hW.mono HB3.out.size))
  exact ⟨hW,hh.1,hh.2⟩
 clear hw3
 refine wp_region_noPanic ?_
 refine wp_region_held_drew (S:=(fun W=>Below w3.heap.size w3 W∧W.cell? ⟨w.heap.size,0,none⟩=some (.int .i64 3)∧W.cell? ⟨w.heap.size,7,none⟩=some (.slice A n c))) (by kernel_rfl) ?_ (fun hHeld=>?_)
 ·exact HS2.out _ (Below.refl _ _).drew
 refine wpAnyH_take (i:=0) (v:=?_) rfl (by kernel_rfl) (by kernel_rfl) (by kernel_rfl) (fun _ _ _ h=>h) (Or.inl ⟨by rfl,?_⟩) (by assumption) ?_
 rotate_left
 ·intro w hSw;(try dsimp only at hSw);go_simp;try with_reducible rfl
 go_simp
 refine wpAnyH_take (i:=1) (v:=?_) rfl (by kernel_rfl) (by kernel_rfl) (by kernel_rfl) (fun _ _ _ h=>h) (Or.inl ⟨by rfl,?_⟩) (by assumption) ?_
 rotate_left
 ·intro w hSw;(try dsimp only at hSw);go_simp;try with_reducible rfl
 go_simp
 refine wpAnyH_take (i:=4) (v:=?_) rfl (by kernel_rfl) (by kernel_rfl) (by kernel_rfl) (fun _ _ _ h=>h) (Or.inl ⟨by rfl,?_⟩) (by assumption) ?_
 rotate_left
 ·intro w hSw;(try dsimp only at hSw);go_simp;try with_reducible rfl
 go_simp
 refine wpAnyH_take (i:=6) (v:=?_) rfl (by kernel_rfl) (by kernel_rfl) (by kernel_rfl) (fun _ _ _ h=>h) (Or.inl ⟨by rfl,?_⟩) (by assumption) ?_
 rotate_left
 ·intro w hSw;(try dsimp only at hSw);go_simp;try with_reducible rfl
 go_simp
 refine wpAnyH_take (i:=7) (v:=?_) rfl (by kernel_rfl) (by kernel_rfl) (by kernel_rfl) (fun _ _ _ h=>h) (Or.inl ⟨by rfl,?_⟩) (by assumption) ?_
 rotate_left
 ·intro w hSw;(try dsimp only at hSw);go_simp;try with_reducible rfl
 go_simp
 refine wpAnyH_ready (rs:=[2]) (by kernel_rfl) (by simp) ?_
 refine AllReadyH.cons rfl (fun K hK=>?_) AllReadyH.nil
 go_simp
 refine hK.out _ _ ?_ (fun hHeld=>?_)
 ·exact HS2.out _ ((Below.refl _ _).drew.alloc (Nat.le_refl _) _)
 clear hK K
 go_simp
 refine wpAnyH_ready (rs:=[3]) (by kernel_rfl) (by simp) ?_
 refine AllReadyH.cons rfl (fun K hK=>?_) AllReadyH.nil
 go_simp
 refine (Rv.rPut_ok none 0 0 [] 0 [3] (w3.heap.size+1) (some ⟨w3.heap.size,0,none⟩) 1 _ (Rd.nil _ _ _) (Nat.zero_le _) (by simp [ones]) (Rd.drew (rd_new w3 #[.int .i64 3] _ _ _ _ _ rfl (by simp) rfl rfl)) (by simp) (by decide) (by decide) (by decide)).mono ?_
 rintro e w4 ⟨v4,rfl,ho4,hb4⟩
 rw [show 0+sumW [3]=1 by decide,List.nil_append] at ho4
 have HB4:Hid (Below w3.heap.size w3 w4):=((Below.refl _ _).alloc (Nat.le_refl _) _).drew.trans (hb4.mono (by simp))
 obtain ⟨A4,c4,rfl,_,_,_,hr4⟩:=own_form ho4
 rw [show 1 * 1=1 from rfl] at hr4
 have HP4:=Lib.hid hr4
 clear ho4 hb4 hr4
 refine hK.out _ _ ?_ (fun hHeld=>?_)
 ·exact HS2.out _ HB4.out
 clear hK K
 go_simp
 refine wpAnyH_ready (rs:=[5]) (by kernel_rfl) (by simp) ?_
 refine AllReadyH.cons rfl (fun K hK=>?_) AllReadyH.nil
 go_simp
 refine (Rv.rPut_ok A4 1 c4 (encs [3]) w4.heap.size [id,off,(bitI fin),(n:Int)] w3.heap.size (some ⟨w1.heap.size,0,none⟩) 4 w4 HP4.out (Nat.le_refl _) HE9.out (HL.out w4 HB4.out) HB4.out.size (by simp) HM.out (by have:=HSW.out;omega)).mono ?_
 rintro e w5 ⟨v5,rfl,ho5,hb5⟩
 have HB5:Hid (Below w3.heap.size w3 w5):=HB4.out.trans (hb5.mono HB4.out.size)
 have HO5:=Lib.hid (own_base ho5 HB4.out.size)
 clear hb5 ho5
 refine hK.out _ _ ?_ (fun hHeld=>?_)
 ·exact HS2.out _ HB5.out
 clear hK K
 go_simp
 refine wpAnyH_ready (rs:=[8]) (by kernel_rfl) (by simp) ?_
 refine AllReadyH.cons rfl (fun K hK=>?_) AllReadyH.nil
 refine step_own rfl (.tmp 117) (.tmp 119) 30 rfl w3.heap.size 5 i0 (.int .u8 0) 1 1 Try.underlying30 HI.out.1 HI.out.2.1 HI.out.2.2.1 HI.out.2.2.2 rfl (by decide) v5 (1+sumW [id,off,(bitI fin),(n:Int)]) (encs [3] ++ encs [id,off,(bitI fin),(n:Int)]) (by simp [Act.eval,Act.put]) HO5.out w.heap.size A n c (bv data) (by simp [Act.eval,Act.put]) (by rw [Nat.mul_one];exact HX.out w5 HB5.out) (ones_bv _) (by have:=HSW.out;unfold maxLen;omega) (by have:=HSW.out;omega) HB5.out.size ?_
 intro v6 w6 ho6 hg6
 have HB6:Hid (Below w3.heap.size w3 w6):=HB5.out.grown hg6 HB5.out.size (fun g hg=>(HO5.out.lt g hg).1)
 have HO6:=Lib.hid (own_base ho6 HW.out.size)
 clear ho6 hg6
 refine hK.out _ _ ?_ (fun hHeld=>?_)
 ·exact HS2.out _ HB6.out
 clear hK K
 go_simp
 refine wpAnyH_take (i:=9) (v:=?_) rfl (by kernel_rfl) (by kernel_rfl) (by kernel_rfl) (fun _ _ _ h=>h) (Or.inl ⟨by rfl,?_⟩) (by assumption) ?_
 rotate_left
 ·intro w hSw;(try dsimp only at hSw);go_simp;try with_reducible rfl
 go_simp
 refine wpAnyH_done (by kernel_rfl) ?_ _
 refine NoPanic.normal ?_
 go_wp2_with fail
 go_ret
 exact ⟨_,rfl,HO6.out,HW.out.trans (HB6.out.mono HW.out.size)⟩
end Go.Proofs.Ytoahkffdoaphlaa
