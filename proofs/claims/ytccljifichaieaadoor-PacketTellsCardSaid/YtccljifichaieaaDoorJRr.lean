/- Joined texts. Conditions: as each theorem lists them. -/
import Derived.Test.YtccljifichaieaaDoorJRn
import Derived.BigQuiet
import Derived.Outline
set_option linter.unusedSimpArgs false
set_option linter.unusedVariables false
set_option maxRecDepth 100000
set_option maxHeartbeats 8000000
namespace Go.Proofs.YtccljifichaieaaDoor
open Go Go.RowKit
theorem rn_at (k:Int) (l:Array Value) (w:World) (h1:1≤k) (h2:k≤12) (h:rnA k=l):Calls Tryd.prog 70 #[.int .i64 k] w fun e w'=>e=.returned (.agg l)∧Below w.heap.size w w':=by
 rw [← h];exact rnames_any k w h1 h2
theorem rright_1 (id off a b note:Int) (fin:Bool) (A:Option Addr) (n c:Nat) (A2:Option Addr) (n2 c2:Nat) (w:World) (hid:wid id≠0) (hoff:wid off≠0) (ha:wid a≠0) (hb:wid b≠0) (hn:n≤120) :
  Calls Tryd.prog 51 #[.agg #[.int .i64 1,.int .i64 0,.int .i64 0,.int .i64 0,.int .i64 0,.int .i64 note,.bool false,.slice A 0 c,.slice A2 0 c2]] w fun e w'=>e=.returned (.bool true)∧Below w.heap.size w w':=by
 have M0:=Lib.hid (fun W=>Rv.may_t 0 W wid0)
 have M1:=Lib.hid (fun W=>Rv.may_t id W hid)
 have M2:=Lib.hid (fun W=>Rv.may_t off W hoff)
 have M3:=Lib.hid (fun W=>Rv.may_t a W ha)
 have M4:=Lib.hid (fun W=>Rv.may_t b W hb)
 have NA:=Lib.hid (fun W=>rn_at 1 #[.bool false,.bool false,.bool false,.bool false,.bool false,.bool false,.bool false] W (by decide) (by decide) rfl)
 have hni:¬ (120:Int)<(n:Int):=by omega
 clear hid hoff ha hb
 go_enter Tryd.func51,Tryd.ntmps51
 go_wp2_with (go_at_call 19;(with_reducible first | refine (M1.out _).mono ?_ | refine (M2.out _).mono ?_ | refine (M3.out _).mono ?_ | refine (M4.out _).mono ?_ | refine (M0.out _).mono ?_);rintro e w' ⟨rfl,rfl⟩)
 refine (NA.out _).mono ?_
 rintro e w1 ⟨rfl,hb1⟩
 have HB1:Hid (Below w.heap.size w w1):=((Below.refl _ _).alloc (Nat.le_refl _) _).trans (hb1.mono (by simp))
 have hx:w1.heap[w.heap.size]?=some (.cells #[.int .i64 1,.int .i64 0,.int .i64 0,.int .i64 0,.int .i64 0,.int .i64 note,.bool false,.slice A 0 c,.slice A2 0 c2] 44 (0,0)):=(hb1.block _ (by simp)).trans (heap_alloc_new _ _)
 have hx2:(w1.alloc (.cells #[.bool false,.bool false,.bool false,.bool false,.bool false,.bool false,.bool false] 90)).heap[w.heap.size]?=some (.cells #[.int .i64 1,.int .i64 0,.int .i64 0,.int .i64 0,.int .i64 0,.int .i64 note,.bool false,.slice A 0 c,.slice A2 0 c2] 44 (0,0)):=(((Below.refl w1.heap.size w1).alloc (Nat.le_refl _) _).block _ (Array.getElem?_eq_some_iff.1 hx).1).trans hx
 have y0:=cell_of_row _ _ 0 _ _ _ hx2
 have y1:=cell_of_row _ _ 1 _ _ _ hx2
 have y2:=cell_of_row _ _ 2 _ _ _ hx2
 have y3:=cell_of_row _ _ 3 _ _ _ hx2
 have y4:=cell_of_row _ _ 4 _ _ _ hx2
 have y6:=cell_of_row _ _ 6 _ _ _ hx2
 have y7:=cell_of_row _ _ 7 _ _ _ hx2
 have y8:=cell_of_row _ _ 8 _ _ _ hx2
 have HB2:Hid (Below w.heap.size w (w1.alloc (.cells #[.bool false,.bool false,.bool false,.bool false,.bool false,.bool false,.bool false] 90))):=HB1.out.alloc HB1.out.size _
 clear hb1 hx hx2
 go_wp2_with fail
 go_ret
 exact ⟨ret_bool (by simp;try omega),HB2.out⟩
theorem rright_2 (id off a b note:Int) (fin:Bool) (A:Option Addr) (n c:Nat) (A2:Option Addr) (n2 c2:Nat) (w:World) (hid:wid id≠0) (hoff:wid off≠0) (ha:wid a≠0) (hb:wid b≠0) (hn:n≤120) (es:List Int) (hs:SpsOk es n2) (h1:1≤n2) (h8:n2≤8) (hx:Rd w w.heap.size A2 (n2 * 2) (ints es)) (hc:n2≤c2) :
  Calls Tryd.prog 51 #[.agg #[.int .i64 2,.int .i64 0,.int .i64 0,.int .i64 0,.int .i64 0,.int .i64 note,.bool false,.slice A 0 c,.slice A2 n2 c2]] w fun e w'=>e=.returned (.bool true)∧Below w.heap.size w w':=by
 have M0:=Lib.hid (fun W=>Rv.may_t 0 W wid0)
 have M1:=Lib.hid (fun W=>Rv.may_t id W hid)
 have M2:=Lib.hid (fun W=>Rv.may_t off W hoff)
 have M3:=Lib.hid (fun W=>Rv.may_t a W ha)
 have M4:=Lib.hid (fun W=>Rv.may_t b W hb)
 have NA:=Lib.hid (fun W=>rn_at 2 #[.bool false,.bool false,.bool false,.bool false,.bool false,.bool false,.bool true] W (by decide) (by decide) rfl)
 have hni:¬ (120:Int)<(n:Int):=by omega
 have HRS:Hid (∀ W,Below w.heap.size w W→Calls Tryd.prog 71 #[.slice A2 n2 c2] W fun e w'=>e=.returned (.bool true)∧Below W.heap.size W w'):=fun W hW=>rspans_yes es n2 w.heap.size A2 c2 W hs h1 h8 (hx.below hW (Nat.le_refl _)) hW.size hc
 clear hs h1 h8 hx hc
 clear hid hoff ha hb
 go_enter Tryd.func51,Tryd.ntmps51
 go_wp2_with (go_at_call 19;(with_reducible first | refine (M1.out _).mono ?_ | refine (M2.out _).mono ?_ | refine (M3.out _).mono ?_ | refine (M4.out _).mono ?_ | refine (M0.out _).mono ?_);rintro e w' ⟨rfl,rfl⟩)
 refine (NA.out _).mono ?_
 rintro e w1 ⟨rfl,hb1⟩
 have HB1:Hid (Below w.heap.size w w1):=((Below.refl _ _).alloc (Nat.le_refl _) _).trans (hb1.mono (by simp))
 have hx:w1.heap[w.heap.size]?=some (.cells #[.int .i64 2,.int .i64 0,.int .i64 0,.int .i64 0,.int .i64 0,.int .i64 note,.bool false,.slice A 0 c,.slice A2 n2 c2] 44 (0,0)):=(hb1.block _ (by simp)).trans (heap_alloc_new _ _)
 have hx2:(w1.alloc (.cells #[.bool false,.bool false,.bool false,.bool false,.bool false,.bool false,.bool true] 90)).heap[w.heap.size]?=some (.cells #[.int .i64 2,.int .i64 0,.int .i64 0,.int .i64 0,.int .i64 0,.int .i64 note,.bool false,.slice A 0 c,.slice A2 n2 c2] 44 (0,0)):=(((Below.refl w1.heap.size w1).alloc (Nat.le_refl _) _).block _ (Array.getElem?_eq_some_iff.1 hx).1).trans hx
 have y0:=cell_of_row _ _ 0 _ _ _ hx2
 have y1:=cell_of_row _ _ 1 _ _ _ hx2
 have y2:=cell_of_row _ _ 2 _ _ _ hx2
 have y3:=cell_of_row _ _ 3 _ _ _ hx2
 have y4:=cell_of_row _ _ 4 _ _ _ hx2
 have y6:=cell_of_row _ _ 6 _ _ _ hx2
 have y7:=cell_of_row _ _ 7 _ _ _ hx2
 have y8:=cell_of_row _ _ 8 _ _ _ hx2
 have HB2:Hid (Below w.heap.size w (w1.alloc (.cells #[.bool false,.bool false,.bool false,.bool false,.bool false,.bool false,.bool true] 90))):=HB1.out.alloc HB1.out.size _
 clear hb1 hx hx2
 go_wp2_with fail
 refine (HRS.out _ HB2.out).mono ?_
 rintro e w2 ⟨rfl,hb2⟩
 have HB3:Hid (Below w.heap.size w w2):=HB2.out.trans (hb2.mono HB2.out.size)
 clear hb2
 go_wp2_with fail
 go_ret
 exact ⟨rfl,HB3.out⟩
theorem rright_3 (id off a b note:Int) (fin:Bool) (A:Option Addr) (n c:Nat) (A2:Option Addr) (n2 c2:Nat) (w:World) (hid:wid id≠0) (hoff:wid off≠0) (ha:wid a≠0) (hb:wid b≠0) (hn:n≤120) (hro:off+n≤4611686018427387903) :
  Calls Tryd.prog 51 #[.agg #[.int .i64 3,.int .i64 id,.int .i64 off,.int .i64 0,.int .i64 0,.int .i64 note,.bool fin,.slice A n c,.slice A2 0 c2]] w fun e w'=>e=.returned (.bool true)∧Below w.heap.size w w':=by
 have M0:=Lib.hid (fun W=>Rv.may_t 0 W wid0)
 have M1:=Lib.hid (fun W=>Rv.may_t id W hid)
 have M2:=Lib.hid (fun W=>Rv.may_t off W hoff)
 have M3:=Lib.hid (fun W=>Rv.may_t a W ha)
 have M4:=Lib.hid (fun W=>Rv.may_t b W hb)
 have NA:=Lib.hid (fun W=>rn_at 3 #[.bool true,.bool true,.bool false,.bool false,.bool true,.bool true,.bool false] W (by decide) (by decide) rfl)
 have hni:¬ (120:Int)<(n:Int):=by omega
 clear hid hoff ha hb
 go_enter Tryd.func51,Tryd.ntmps51
 go_wp2_with (go_at_call 19;(with_reducible first | refine (M1.out _).mono ?_ | refine (M2.out _).mono ?_ | refine (M3.out _).mono ?_ | refine (M4.out _).mono ?_ | refine (M0.out _).mono ?_);rintro e w' ⟨rfl,rfl⟩)
 refine (NA.out _).mono ?_
 rintro e w1 ⟨rfl,hb1⟩
 have HB1:Hid (Below w.heap.size w w1):=((Below.refl _ _).alloc (Nat.le_refl _) _).trans (hb1.mono (by simp))
 have hx:w1.heap[w.heap.size]?=some (.cells #[.int .i64 3,.int .i64 id,.int .i64 off,.int .i64 0,.int .i64 0,.int .i64 note,.bool fin,.slice A n c,.slice A2 0 c2] 44 (0,0)):=(hb1.block _ (by simp)).trans (heap_alloc_new _ _)
 have hx2:(w1.alloc (.cells #[.bool true,.bool true,.bool false,.bool false,.bool true,.bool true,.bool false] 90)).heap[w.heap.size]?=some (.cells #[.int .i64 3,.int .i64 id,.int .i64 off,.int .i64 0,.int .i64 0,.int .i64 note,.bool fin,.slice A n c,.slice A2 0 c2] 44 (0,0)):=(((Below.refl w1.heap.size w1).alloc (Nat.le_refl _) _).block _ (Array.getElem?_eq_some_iff.1 hx).1).trans hx
 have y0:=cell_of_row _ _ 0 _ _ _ hx2
 have y1:=cell_of_row _ _ 1 _ _ _ hx2
 have y2:=cell_of_row _ _ 2 _ _ _ hx2
 have y3:=cell_of_row _ _ 3 _ _ _ hx2
 have y4:=cell_of_row _ _ 4 _ _ _ hx2
 have y6:=cell_of_row _ _ 6 _ _ _ hx2
 have y7:=cell_of_row _ _ 7 _ _ _ hx2
 have y8:=cell_of_row _ _ 8 _ _ _ hx2
 have HB2:Hid (Below w.heap.size w (w1.alloc (.cells #[.bool true,.bool true,.bool false,.bool false,.bool true,.bool true,.bool false] 90))):=HB1.out.alloc HB1.out.size _
 clear hb1 hx hx2
 go_wp2_with fail
 go_ret
 exact ⟨ret_bool (by simp;try omega),HB2.out⟩
theorem rright_4 (id off a b note:Int) (fin:Bool) (A:Option Addr) (n c:Nat) (A2:Option Addr) (n2 c2:Nat) (w:World) (hid:wid id≠0) (hoff:wid off≠0) (ha:wid a≠0) (hb:wid b≠0) (hn:n≤120) (hbo:b≤off) :
  Calls Tryd.prog 51 #[.agg #[.int .i64 4,.int .i64 id,.int .i64 off,.int .i64 a,.int .i64 b,.int .i64 note,.bool false,.slice A 0 c,.slice A2 0 c2]] w fun e w'=>e=.returned (.bool true)∧Below w.heap.size w w':=by
 have M0:=Lib.hid (fun W=>Rv.may_t 0 W wid0)
 have M1:=Lib.hid (fun W=>Rv.may_t id W hid)
 have M2:=Lib.hid (fun W=>Rv.may_t off W hoff)
 have M3:=Lib.hid (fun W=>Rv.may_t a W ha)
 have M4:=Lib.hid (fun W=>Rv.may_t b W hb)
 have NA:=Lib.hid (fun W=>rn_at 4 #[.bool true,.bool true,.bool true,.bool true,.bool false,.bool false,.bool false] W (by decide) (by decide) rfl)
 have hni:¬ (120:Int)<(n:Int):=by omega
 clear hid hoff ha hb
 go_enter Tryd.func51,Tryd.ntmps51
 go_wp2_with (go_at_call 19;(with_reducible first | refine (M1.out _).mono ?_ | refine (M2.out _).mono ?_ | refine (M3.out _).mono ?_ | refine (M4.out _).mono ?_ | refine (M0.out _).mono ?_);rintro e w' ⟨rfl,rfl⟩)
 refine (NA.out _).mono ?_
 rintro e w1 ⟨rfl,hb1⟩
 have HB1:Hid (Below w.heap.size w w1):=((Below.refl _ _).alloc (Nat.le_refl _) _).trans (hb1.mono (by simp))
 have hx:w1.heap[w.heap.size]?=some (.cells #[.int .i64 4,.int .i64 id,.int .i64 off,.int .i64 a,.int .i64 b,.int .i64 note,.bool false,.slice A 0 c,.slice A2 0 c2] 44 (0,0)):=(hb1.block _ (by simp)).trans (heap_alloc_new _ _)
 have hx2:(w1.alloc (.cells #[.bool true,.bool true,.bool true,.bool true,.bool false,.bool false,.bool false] 90)).heap[w.heap.size]?=some (.cells #[.int .i64 4,.int .i64 id,.int .i64 off,.int .i64 a,.int .i64 b,.int .i64 note,.bool false,.slice A 0 c,.slice A2 0 c2] 44 (0,0)):=(((Below.refl w1.heap.size w1).alloc (Nat.le_refl _) _).block _ (Array.getElem?_eq_some_iff.1 hx).1).trans hx
 have y0:=cell_of_row _ _ 0 _ _ _ hx2
 have y1:=cell_of_row _ _ 1 _ _ _ hx2
 have y2:=cell_of_row _ _ 2 _ _ _ hx2
 have y3:=cell_of_row _ _ 3 _ _ _ hx2
 have y4:=cell_of_row _ _ 4 _ _ _ hx2
 have y6:=cell_of_row _ _ 6 _ _ _ hx2
 have y7:=cell_of_row _ _ 7 _ _ _ hx2
 have y8:=cell_of_row _ _ 8 _ _ _ hx2
 have HB2:Hid (Below w.heap.size w (w1.alloc (.cells #[.bool true,.bool true,.bool true,.bool true,.bool false,.bool false,.bool false] 90))):=HB1.out.alloc HB1.out.size _
 clear hb1 hx hx2
 go_wp2_with fail
 go_ret
 exact ⟨ret_bool (by simp;try omega),HB2.out⟩
theorem rright_5 (id off a b note:Int) (fin:Bool) (A:Option Addr) (n c:Nat) (A2:Option Addr) (n2 c2:Nat) (w:World) (hid:wid id≠0) (hoff:wid off≠0) (ha:wid a≠0) (hb:wid b≠0) (hn:n≤120) :
  Calls Tryd.prog 51 #[.agg #[.int .i64 5,.int .i64 id,.int .i64 0,.int .i64 a,.int .i64 0,.int .i64 note,.bool false,.slice A 0 c,.slice A2 0 c2]] w fun e w'=>e=.returned (.bool true)∧Below w.heap.size w w':=by
 have M0:=Lib.hid (fun W=>Rv.may_t 0 W wid0)
 have M1:=Lib.hid (fun W=>Rv.may_t id W hid)
 have M2:=Lib.hid (fun W=>Rv.may_t off W hoff)
 have M3:=Lib.hid (fun W=>Rv.may_t a W ha)
 have M4:=Lib.hid (fun W=>Rv.may_t b W hb)
 have NA:=Lib.hid (fun W=>rn_at 5 #[.bool true,.bool false,.bool true,.bool false,.bool false,.bool false,.bool false] W (by decide) (by decide) rfl)
 have hni:¬ (120:Int)<(n:Int):=by omega
 clear hid hoff ha hb
 go_enter Tryd.func51,Tryd.ntmps51
 go_wp2_with (go_at_call 19;(with_reducible first | refine (M1.out _).mono ?_ | refine (M2.out _).mono ?_ | refine (M3.out _).mono ?_ | refine (M4.out _).mono ?_ | refine (M0.out _).mono ?_);rintro e w' ⟨rfl,rfl⟩)
 refine (NA.out _).mono ?_
 rintro e w1 ⟨rfl,hb1⟩
 have HB1:Hid (Below w.heap.size w w1):=((Below.refl _ _).alloc (Nat.le_refl _) _).trans (hb1.mono (by simp))
 have hx:w1.heap[w.heap.size]?=some (.cells #[.int .i64 5,.int .i64 id,.int .i64 0,.int .i64 a,.int .i64 0,.int .i64 note,.bool false,.slice A 0 c,.slice A2 0 c2] 44 (0,0)):=(hb1.block _ (by simp)).trans (heap_alloc_new _ _)
 have hx2:(w1.alloc (.cells #[.bool true,.bool false,.bool true,.bool false,.bool false,.bool false,.bool false] 90)).heap[w.heap.size]?=some (.cells #[.int .i64 5,.int .i64 id,.int .i64 0,.int .i64 a,.int .i64 0,.int .i64 note,.bool false,.slice A 0 c,.slice A2 0 c2] 44 (0,0)):=(((Below.refl w1.heap.size w1).alloc (Nat.le_refl _) _).block _ (Array.getElem?_eq_some_iff.1 hx).1).trans hx
 have y0:=cell_of_row _ _ 0 _ _ _ hx2
 have y1:=cell_of_row _ _ 1 _ _ _ hx2
 have y2:=cell_of_row _ _ 2 _ _ _ hx2
 have y3:=cell_of_row _ _ 3 _ _ _ hx2
 have y4:=cell_of_row _ _ 4 _ _ _ hx2
 have y6:=cell_of_row _ _ 6 _ _ _ hx2
 have y7:=cell_of_row _ _ 7 _ _ _ hx2
 have y8:=cell_of_row _ _ 8 _ _ _ hx2
 have HB2:Hid (Below w.heap.size w (w1.alloc (.cells #[.bool true,.bool false,.bool true,.bool false,.bool false,.bool false,.bool false] 90))):=HB1.out.alloc HB1.out.size _
 clear hb1 hx hx2
 go_wp2_with fail
 go_ret
 exact ⟨ret_bool (by simp;try omega),HB2.out⟩
theorem rright_6 (id off a b note:Int) (fin:Bool) (A:Option Addr) (n c:Nat) (A2:Option Addr) (n2 c2:Nat) (w:World) (hid:wid id≠0) (hoff:wid off≠0) (ha:wid a≠0) (hb:wid b≠0) (hn:n≤120) :
  Calls Tryd.prog 51 #[.agg #[.int .i64 6,.int .i64 0,.int .i64 0,.int .i64 a,.int .i64 0,.int .i64 note,.bool false,.slice A 0 c,.slice A2 0 c2]] w fun e w'=>e=.returned (.bool true)∧Below w.heap.size w w':=by
 have M0:=Lib.hid (fun W=>Rv.may_t 0 W wid0)
 have M1:=Lib.hid (fun W=>Rv.may_t id W hid)
 have M2:=Lib.hid (fun W=>Rv.may_t off W hoff)
 have M3:=Lib.hid (fun W=>Rv.may_t a W ha)
 have M4:=Lib.hid (fun W=>Rv.may_t b W hb)
 have NA:=Lib.hid (fun W=>rn_at 6 #[.bool false,.bool false,.bool true,.bool false,.bool false,.bool false,.bool false] W (by decide) (by decide) rfl)
 have hni:¬ (120:Int)<(n:Int):=by omega
 clear hid hoff ha hb
 go_enter Tryd.func51,Tryd.ntmps51
 go_wp2_with (go_at_call 19;(with_reducible first | refine (M1.out _).mono ?_ | refine (M2.out _).mono ?_ | refine (M3.out _).mono ?_ | refine (M4.out _).mono ?_ | refine (M0.out _).mono ?_);rintro e w' ⟨rfl,rfl⟩)
 refine (NA.out _).mono ?_
 rintro e w1 ⟨rfl,hb1⟩
 have HB1:Hid (Below w.heap.size w w1):=((Below.refl _ _).alloc (Nat.le_refl _) _).trans (hb1.mono (by simp))
 have hx:w1.heap[w.heap.size]?=some (.cells #[.int .i64 6,.int .i64 0,.int .i64 0,.int .i64 a,.int .i64 0,.int .i64 note,.bool false,.slice A 0 c,.slice A2 0 c2] 44 (0,0)):=(hb1.block _ (by simp)).trans (heap_alloc_new _ _)
 have hx2:(w1.alloc (.cells #[.bool false,.bool false,.bool true,.bool false,.bool false,.bool false,.bool false] 90)).heap[w.heap.size]?=some (.cells #[.int .i64 6,.int .i64 0,.int .i64 0,.int .i64 a,.int .i64 0,.int .i64 note,.bool false,.slice A 0 c,.slice A2 0 c2] 44 (0,0)):=(((Below.refl w1.heap.size w1).alloc (Nat.le_refl _) _).block _ (Array.getElem?_eq_some_iff.1 hx).1).trans hx
 have y0:=cell_of_row _ _ 0 _ _ _ hx2
 have y1:=cell_of_row _ _ 1 _ _ _ hx2
 have y2:=cell_of_row _ _ 2 _ _ _ hx2
 have y3:=cell_of_row _ _ 3 _ _ _ hx2
 have y4:=cell_of_row _ _ 4 _ _ _ hx2
 have y6:=cell_of_row _ _ 6 _ _ _ hx2
 have y7:=cell_of_row _ _ 7 _ _ _ hx2
 have y8:=cell_of_row _ _ 8 _ _ _ hx2
 have HB2:Hid (Below w.heap.size w (w1.alloc (.cells #[.bool false,.bool false,.bool true,.bool false,.bool false,.bool false,.bool false] 90))):=HB1.out.alloc HB1.out.size _
 clear hb1 hx hx2
 go_wp2_with fail
 go_ret
 exact ⟨ret_bool (by simp;try omega),HB2.out⟩
theorem rright_7 (id off a b note:Int) (fin:Bool) (A:Option Addr) (n c:Nat) (A2:Option Addr) (n2 c2:Nat) (w:World) (hid:wid id≠0) (hoff:wid off≠0) (ha:wid a≠0) (hb:wid b≠0) (hn:n≤120) :
  Calls Tryd.prog 51 #[.agg #[.int .i64 7,.int .i64 id,.int .i64 0,.int .i64 a,.int .i64 0,.int .i64 note,.bool false,.slice A 0 c,.slice A2 0 c2]] w fun e w'=>e=.returned (.bool true)∧Below w.heap.size w w':=by
 have M0:=Lib.hid (fun W=>Rv.may_t 0 W wid0)
 have M1:=Lib.hid (fun W=>Rv.may_t id W hid)
 have M2:=Lib.hid (fun W=>Rv.may_t off W hoff)
 have M3:=Lib.hid (fun W=>Rv.may_t a W ha)
 have M4:=Lib.hid (fun W=>Rv.may_t b W hb)
 have NA:=Lib.hid (fun W=>rn_at 7 #[.bool true,.bool false,.bool true,.bool false,.bool false,.bool false,.bool false] W (by decide) (by decide) rfl)
 have hni:¬ (120:Int)<(n:Int):=by omega
 clear hid hoff ha hb
 go_enter Tryd.func51,Tryd.ntmps51
 go_wp2_with (go_at_call 19;(with_reducible first | refine (M1.out _).mono ?_ | refine (M2.out _).mono ?_ | refine (M3.out _).mono ?_ | refine (M4.out _).mono ?_ | refine (M0.out _).mono ?_);rintro e w' ⟨rfl,rfl⟩)
 refine (NA.out _).mono ?_
 rintro e w1 ⟨rfl,hb1⟩
 have HB1:Hid (Below w.heap.size w w1):=((Below.refl _ _).alloc (Nat.le_refl _) _).trans (hb1.mono (by simp))
 have hx:w1.heap[w.heap.size]?=some (.cells #[.int .i64 7,.int .i64 id,.int .i64 0,.int .i64 a,.int .i64 0,.int .i64 note,.bool false,.slice A 0 c,.slice A2 0 c2] 44 (0,0)):=(hb1.block _ (by simp)).trans (heap_alloc_new _ _)
 have hx2:(w1.alloc (.cells #[.bool true,.bool false,.bool true,.bool false,.bool false,.bool false,.bool false] 90)).heap[w.heap.size]?=some (.cells #[.int .i64 7,.int .i64 id,.int .i64 0,.int .i64 a,.int .i64 0,.int .i64 note,.bool false,.slice A 0 c,.slice A2 0 c2] 44 (0,0)):=(((Below.refl w1.heap.size w1).alloc (Nat.le_refl _) _).block _ (Array.getElem?_eq_some_iff.1 hx).1).trans hx
 have y0:=cell_of_row _ _ 0 _ _ _ hx2
 have y1:=cell_of_row _ _ 1 _ _ _ hx2
 have y2:=cell_of_row _ _ 2 _ _ _ hx2
 have y3:=cell_of_row _ _ 3 _ _ _ hx2
 have y4:=cell_of_row _ _ 4 _ _ _ hx2
 have y6:=cell_of_row _ _ 6 _ _ _ hx2
 have y7:=cell_of_row _ _ 7 _ _ _ hx2
 have y8:=cell_of_row _ _ 8 _ _ _ hx2
 have HB2:Hid (Below w.heap.size w (w1.alloc (.cells #[.bool true,.bool false,.bool true,.bool false,.bool false,.bool false,.bool false] 90))):=HB1.out.alloc HB1.out.size _
 clear hb1 hx hx2
 go_wp2_with fail
 go_ret
 exact ⟨ret_bool (by simp;try omega),HB2.out⟩
theorem rright_8 (id off a b note:Int) (fin:Bool) (A:Option Addr) (n c:Nat) (A2:Option Addr) (n2 c2:Nat) (w:World) (hid:wid id≠0) (hoff:wid off≠0) (ha:wid a≠0) (hb:wid b≠0) (hn:n≤120) :
  Calls Tryd.prog 51 #[.agg #[.int .i64 8,.int .i64 0,.int .i64 0,.int .i64 a,.int .i64 0,.int .i64 note,.bool fin,.slice A 0 c,.slice A2 0 c2]] w fun e w'=>e=.returned (.bool true)∧Below w.heap.size w w':=by
 have M0:=Lib.hid (fun W=>Rv.may_t 0 W wid0)
 have M1:=Lib.hid (fun W=>Rv.may_t id W hid)
 have M2:=Lib.hid (fun W=>Rv.may_t off W hoff)
 have M3:=Lib.hid (fun W=>Rv.may_t a W ha)
 have M4:=Lib.hid (fun W=>Rv.may_t b W hb)
 have NA:=Lib.hid (fun W=>rn_at 8 #[.bool false,.bool false,.bool true,.bool false,.bool true,.bool false,.bool false] W (by decide) (by decide) rfl)
 have hni:¬ (120:Int)<(n:Int):=by omega
 clear hid hoff ha hb
 go_enter Tryd.func51,Tryd.ntmps51
 go_wp2_with (go_at_call 19;(with_reducible first | refine (M1.out _).mono ?_ | refine (M2.out _).mono ?_ | refine (M3.out _).mono ?_ | refine (M4.out _).mono ?_ | refine (M0.out _).mono ?_);rintro e w' ⟨rfl,rfl⟩)
 refine (NA.out _).mono ?_
 rintro e w1 ⟨rfl,hb1⟩
 have HB1:Hid (Below w.heap.size w w1):=((Below.refl _ _).alloc (Nat.le_refl _) _).trans (hb1.mono (by simp))
 have hx:w1.heap[w.heap.size]?=some (.cells #[.int .i64 8,.int .i64 0,.int .i64 0,.int .i64 a,.int .i64 0,.int .i64 note,.bool fin,.slice A 0 c,.slice A2 0 c2] 44 (0,0)):=(hb1.block _ (by simp)).trans (heap_alloc_new _ _)
 have hx2:(w1.alloc (.cells #[.bool false,.bool false,.bool true,.bool false,.bool true,.bool false,.bool false] 90)).heap[w.heap.size]?=some (.cells #[.int .i64 8,.int .i64 0,.int .i64 0,.int .i64 a,.int .i64 0,.int .i64 note,.bool fin,.slice A 0 c,.slice A2 0 c2] 44 (0,0)):=(((Below.refl w1.heap.size w1).alloc (Nat.le_refl _) _).block _ (Array.getElem?_eq_some_iff.1 hx).1).trans hx
 have y0:=cell_of_row _ _ 0 _ _ _ hx2
 have y1:=cell_of_row _ _ 1 _ _ _ hx2
 have y2:=cell_of_row _ _ 2 _ _ _ hx2
 have y3:=cell_of_row _ _ 3 _ _ _ hx2
 have y4:=cell_of_row _ _ 4 _ _ _ hx2
 have y6:=cell_of_row _ _ 6 _ _ _ hx2
 have y7:=cell_of_row _ _ 7 _ _ _ hx2
 have y8:=cell_of_row _ _ 8 _ _ _ hx2
 have HB2:Hid (Below w.heap.size w (w1.alloc (.cells #[.bool false,.bool false,.bool true,.bool false,.bool true,.bool false,.bool false] 90))):=HB1.out.alloc HB1.out.size _
 clear hb1 hx hx2
 go_wp2_with fail
 go_ret
 exact ⟨ret_bool (by simp;try omega),HB2.out⟩
theorem rright_9 (id off a b note:Int) (fin:Bool) (A:Option Addr) (n c:Nat) (A2:Option Addr) (n2 c2:Nat) (w:World) (hid:wid id≠0) (hoff:wid off≠0) (ha:wid a≠0) (hb:wid b≠0) (hn:n≤120) (hn0:0<n) :
  Calls Tryd.prog 51 #[.agg #[.int .i64 9,.int .i64 0,.int .i64 0,.int .i64 0,.int .i64 0,.int .i64 note,.bool false,.slice A n c,.slice A2 0 c2]] w fun e w'=>e=.returned (.bool true)∧Below w.heap.size w w':=by
 have M0:=Lib.hid (fun W=>Rv.may_t 0 W wid0)
 have M1:=Lib.hid (fun W=>Rv.may_t id W hid)
 have M2:=Lib.hid (fun W=>Rv.may_t off W hoff)
 have M3:=Lib.hid (fun W=>Rv.may_t a W ha)
 have M4:=Lib.hid (fun W=>Rv.may_t b W hb)
 have NA:=Lib.hid (fun W=>rn_at 9 #[.bool false,.bool false,.bool false,.bool false,.bool false,.bool true,.bool false] W (by decide) (by decide) rfl)
 have hni:¬ (120:Int)<(n:Int):=by omega
 have hn0i:(0:Int)<(n:Int):=by omega
 clear hid hoff ha hb
 go_enter Tryd.func51,Tryd.ntmps51
 go_wp2_with (go_at_call 19;(with_reducible first | refine (M1.out _).mono ?_ | refine (M2.out _).mono ?_ | refine (M3.out _).mono ?_ | refine (M4.out _).mono ?_ | refine (M0.out _).mono ?_);rintro e w' ⟨rfl,rfl⟩)
 refine (NA.out _).mono ?_
 rintro e w1 ⟨rfl,hb1⟩
 have HB1:Hid (Below w.heap.size w w1):=((Below.refl _ _).alloc (Nat.le_refl _) _).trans (hb1.mono (by simp))
 have hx:w1.heap[w.heap.size]?=some (.cells #[.int .i64 9,.int .i64 0,.int .i64 0,.int .i64 0,.int .i64 0,.int .i64 note,.bool false,.slice A n c,.slice A2 0 c2] 44 (0,0)):=(hb1.block _ (by simp)).trans (heap_alloc_new _ _)
 have hx2:(w1.alloc (.cells #[.bool false,.bool false,.bool false,.bool false,.bool false,.bool true,.bool false] 90)).heap[w.heap.size]?=some (.cells #[.int .i64 9,.int .i64 0,.int .i64 0,.int .i64 0,.int .i64 0,.int .i64 note,.bool false,.slice A n c,.slice A2 0 c2] 44 (0,0)):=(((Below.refl w1.heap.size w1).alloc (Nat.le_refl _) _).block _ (Array.getElem?_eq_some_iff.1 hx).1).trans hx
 have y0:=cell_of_row _ _ 0 _ _ _ hx2
 have y1:=cell_of_row _ _ 1 _ _ _ hx2
 have y2:=cell_of_row _ _ 2 _ _ _ hx2
 have y3:=cell_of_row _ _ 3 _ _ _ hx2
 have y4:=cell_of_row _ _ 4 _ _ _ hx2
 have y6:=cell_of_row _ _ 6 _ _ _ hx2
 have y7:=cell_of_row _ _ 7 _ _ _ hx2
 have y8:=cell_of_row _ _ 8 _ _ _ hx2
 have HB2:Hid (Below w.heap.size w (w1.alloc (.cells #[.bool false,.bool false,.bool false,.bool false,.bool false,.bool true,.bool false] 90))):=HB1.out.alloc HB1.out.size _
 clear hb1 hx hx2
 go_wp2_with fail
 go_ret
 exact ⟨ret_bool (by simp;try omega),HB2.out⟩
theorem rright_10 (id off a b note:Int) (fin:Bool) (A:Option Addr) (n c:Nat) (A2:Option Addr) (n2 c2:Nat) (w:World) (hid:wid id≠0) (hoff:wid off≠0) (ha:wid a≠0) (hb:wid b≠0) (hn:n≤120) :
  Calls Tryd.prog 51 #[.agg #[.int .i64 10,.int .i64 id,.int .i64 0,.int .i64 0,.int .i64 0,.int .i64 note,.bool false,.slice A 0 c,.slice A2 0 c2]] w fun e w'=>e=.returned (.bool true)∧Below w.heap.size w w':=by
 have M0:=Lib.hid (fun W=>Rv.may_t 0 W wid0)
 have M1:=Lib.hid (fun W=>Rv.may_t id W hid)
 have M2:=Lib.hid (fun W=>Rv.may_t off W hoff)
 have M3:=Lib.hid (fun W=>Rv.may_t a W ha)
 have M4:=Lib.hid (fun W=>Rv.may_t b W hb)
 have NA:=Lib.hid (fun W=>rn_at 10 #[.bool true,.bool false,.bool false,.bool false,.bool false,.bool false,.bool false] W (by decide) (by decide) rfl)
 have hni:¬ (120:Int)<(n:Int):=by omega
 clear hid hoff ha hb
 go_enter Tryd.func51,Tryd.ntmps51
 go_wp2_with (go_at_call 19;(with_reducible first | refine (M1.out _).mono ?_ | refine (M2.out _).mono ?_ | refine (M3.out _).mono ?_ | refine (M4.out _).mono ?_ | refine (M0.out _).mono ?_);rintro e w' ⟨rfl,rfl⟩)
 refine (NA.out _).mono ?_
 rintro e w1 ⟨rfl,hb1⟩
 have HB1:Hid (Below w.heap.size w w1):=((Below.refl _ _).alloc (Nat.le_refl _) _).trans (hb1.mono (by simp))
 have hx:w1.heap[w.heap.size]?=some (.cells #[.int .i64 10,.int .i64 id,.int .i64 0,.int .i64 0,.int .i64 0,.int .i64 note,.bool false,.slice A 0 c,.slice A2 0 c2] 44 (0,0)):=(hb1.block _ (by simp)).trans (heap_alloc_new _ _)
 have hx2:(w1.alloc (.cells #[.bool true,.bool false,.bool false,.bool false,.bool false,.bool false,.bool false] 90)).heap[w.heap.size]?=some (.cells #[.int .i64 10,.int .i64 id,.int .i64 0,.int .i64 0,.int .i64 0,.int .i64 note,.bool false,.slice A 0 c,.slice A2 0 c2] 44 (0,0)):=(((Below.refl w1.heap.size w1).alloc (Nat.le_refl _) _).block _ (Array.getElem?_eq_some_iff.1 hx).1).trans hx
 have y0:=cell_of_row _ _ 0 _ _ _ hx2
 have y1:=cell_of_row _ _ 1 _ _ _ hx2
 have y2:=cell_of_row _ _ 2 _ _ _ hx2
 have y3:=cell_of_row _ _ 3 _ _ _ hx2
 have y4:=cell_of_row _ _ 4 _ _ _ hx2
 have y6:=cell_of_row _ _ 6 _ _ _ hx2
 have y7:=cell_of_row _ _ 7 _ _ _ hx2
 have y8:=cell_of_row _ _ 8 _ _ _ hx2
 have HB2:Hid (Below w.heap.size w (w1.alloc (.cells #[.bool true,.bool false,.bool false,.bool false,.bool false,.bool false,.bool false] 90))):=HB1.out.alloc HB1.out.size _
 clear hb1 hx hx2
 go_wp2_with fail
 go_ret
 exact ⟨ret_bool (by simp;try omega),HB2.out⟩
theorem rright_11 (id off a b note:Int) (fin:Bool) (A:Option Addr) (n c:Nat) (A2:Option Addr) (n2 c2:Nat) (w:World) (hid:wid id≠0) (hoff:wid off≠0) (ha:wid a≠0) (hb:wid b≠0) (hn:n≤120) :
  Calls Tryd.prog 51 #[.agg #[.int .i64 11,.int .i64 id,.int .i64 0,.int .i64 0,.int .i64 0,.int .i64 note,.bool false,.slice A 0 c,.slice A2 0 c2]] w fun e w'=>e=.returned (.bool true)∧Below w.heap.size w w':=by
 have M0:=Lib.hid (fun W=>Rv.may_t 0 W wid0)
 have M1:=Lib.hid (fun W=>Rv.may_t id W hid)
 have M2:=Lib.hid (fun W=>Rv.may_t off W hoff)
 have M3:=Lib.hid (fun W=>Rv.may_t a W ha)
 have M4:=Lib.hid (fun W=>Rv.may_t b W hb)
 have NA:=Lib.hid (fun W=>rn_at 11 #[.bool true,.bool false,.bool false,.bool false,.bool false,.bool false,.bool false] W (by decide) (by decide) rfl)
 have hni:¬ (120:Int)<(n:Int):=by omega
 clear hid hoff ha hb
 go_enter Tryd.func51,Tryd.ntmps51
 go_wp2_with (go_at_call 19;(with_reducible first | refine (M1.out _).mono ?_ | refine (M2.out _).mono ?_ | refine (M3.out _).mono ?_ | refine (M4.out _).mono ?_ | refine (M0.out _).mono ?_);rintro e w' ⟨rfl,rfl⟩)
 refine (NA.out _).mono ?_
 rintro e w1 ⟨rfl,hb1⟩
 have HB1:Hid (Below w.heap.size w w1):=((Below.refl _ _).alloc (Nat.le_refl _) _).trans (hb1.mono (by simp))
 have hx:w1.heap[w.heap.size]?=some (.cells #[.int .i64 11,.int .i64 id,.int .i64 0,.int .i64 0,.int .i64 0,.int .i64 note,.bool false,.slice A 0 c,.slice A2 0 c2] 44 (0,0)):=(hb1.block _ (by simp)).trans (heap_alloc_new _ _)
 have hx2:(w1.alloc (.cells #[.bool true,.bool false,.bool false,.bool false,.bool false,.bool false,.bool false] 90)).heap[w.heap.size]?=some (.cells #[.int .i64 11,.int .i64 id,.int .i64 0,.int .i64 0,.int .i64 0,.int .i64 note,.bool false,.slice A 0 c,.slice A2 0 c2] 44 (0,0)):=(((Below.refl w1.heap.size w1).alloc (Nat.le_refl _) _).block _ (Array.getElem?_eq_some_iff.1 hx).1).trans hx
 have y0:=cell_of_row _ _ 0 _ _ _ hx2
 have y1:=cell_of_row _ _ 1 _ _ _ hx2
 have y2:=cell_of_row _ _ 2 _ _ _ hx2
 have y3:=cell_of_row _ _ 3 _ _ _ hx2
 have y4:=cell_of_row _ _ 4 _ _ _ hx2
 have y6:=cell_of_row _ _ 6 _ _ _ hx2
 have y7:=cell_of_row _ _ 7 _ _ _ hx2
 have y8:=cell_of_row _ _ 8 _ _ _ hx2
 have HB2:Hid (Below w.heap.size w (w1.alloc (.cells #[.bool true,.bool false,.bool false,.bool false,.bool false,.bool false,.bool false] 90))):=HB1.out.alloc HB1.out.size _
 clear hb1 hx hx2
 go_wp2_with fail
 go_ret
 exact ⟨ret_bool (by simp;try omega),HB2.out⟩
theorem rright_12 (id off a b note:Int) (fin:Bool) (A:Option Addr) (n c:Nat) (A2:Option Addr) (n2 c2:Nat) (w:World) (hid:wid id≠0) (hoff:wid off≠0) (ha:wid a≠0) (hb:wid b≠0) (hn:n≤120) :
  Calls Tryd.prog 51 #[.agg #[.int .i64 12,.int .i64 0,.int .i64 0,.int .i64 a,.int .i64 0,.int .i64 note,.bool false,.slice A 0 c,.slice A2 0 c2]] w fun e w'=>e=.returned (.bool true)∧Below w.heap.size w w':=by
 have M0:=Lib.hid (fun W=>Rv.may_t 0 W wid0)
 have M1:=Lib.hid (fun W=>Rv.may_t id W hid)
 have M2:=Lib.hid (fun W=>Rv.may_t off W hoff)
 have M3:=Lib.hid (fun W=>Rv.may_t a W ha)
 have M4:=Lib.hid (fun W=>Rv.may_t b W hb)
 have NA:=Lib.hid (fun W=>rn_at 12 #[.bool false,.bool false,.bool true,.bool false,.bool false,.bool false,.bool false] W (by decide) (by decide) rfl)
 have hni:¬ (120:Int)<(n:Int):=by omega
 clear hid hoff ha hb
 go_enter Tryd.func51,Tryd.ntmps51
 go_wp2_with (go_at_call 19;(with_reducible first | refine (M1.out _).mono ?_ | refine (M2.out _).mono ?_ | refine (M3.out _).mono ?_ | refine (M4.out _).mono ?_ | refine (M0.out _).mono ?_);rintro e w' ⟨rfl,rfl⟩)
 refine (NA.out _).mono ?_
 rintro e w1 ⟨rfl,hb1⟩
 have HB1:Hid (Below w.heap.size w w1):=((Below.refl _ _).alloc (Nat.le_refl _) _).trans (hb1.mono (by simp))
 have hx:w1.heap[w.heap.size]?=some (.cells #[.int .i64 12,.int .i64 0,.int .i64 0,.int .i64 a,.int .i64 0,.int .i64 note,.bool false,.slice A 0 c,.slice A2 0 c2] 44 (0,0)):=(hb1.block _ (by simp)).trans (heap_alloc_new _ _)
 have hx2:(w1.alloc (.cells #[.bool false,.bool false,.bool true,.bool false,.bool false,.bool false,.bool false] 90)).heap[w.heap.size]?=some (.cells #[.int .i64 12,.int .i64 0,.int .i64 0,.int .i64 a,.int .i64 0,.int .i64 note,.bool false,.slice A 0 c,.slice A2 0 c2] 44 (0,0)):=(((Below.refl w1.heap.size w1).alloc (Nat.le_refl _) _).block _ (Array.getElem?_eq_some_iff.1 hx).1).trans hx
 have y0:=cell_of_row _ _ 0 _ _ _ hx2
 have y1:=cell_of_row _ _ 1 _ _ _ hx2
 have y2:=cell_of_row _ _ 2 _ _ _ hx2
 have y3:=cell_of_row _ _ 3 _ _ _ hx2
 have y4:=cell_of_row _ _ 4 _ _ _ hx2
 have y6:=cell_of_row _ _ 6 _ _ _ hx2
 have y7:=cell_of_row _ _ 7 _ _ _ hx2
 have y8:=cell_of_row _ _ 8 _ _ _ hx2
 have HB2:Hid (Below w.heap.size w (w1.alloc (.cells #[.bool false,.bool false,.bool true,.bool false,.bool false,.bool false,.bool false] 90))):=HB1.out.alloc HB1.out.size _
 clear hb1 hx hx2
 go_wp2_with fail
 go_ret
 exact ⟨ret_bool (by simp;try omega),HB2.out⟩
end Go.Proofs.YtccljifichaieaaDoor
