/- Joined texts. Conditions: as each theorem lists them. -/
import Derived.Test.YtccljifichaieaaDoorJRz
import Derived.BigQuiet
import Derived.Outline
import Derived.BigGuard
import Derived.Deep.DeepCutAuto
set_option linter.unusedSimpArgs false
set_option linter.unusedVariables false
set_option maxRecDepth 100000
set_option maxHeartbeats 8000000
namespace Go.Proofs.YtccljifichaieaaDoor
open Go Go.RowKit
theorem rno_4 (id off a b note:Int) (fin:Bool) (A:Option Addr) (n c:Nat) (A2:Option Addr) (n2 c2:Nat) (w:World) (hid:wid id≠0) (hoff:wid off≠0) (ha:wid a≠0) (hb:wid b≠0) (hn:n≤120) (hbad:(fin=true)∨(fin=false∧0<n)∨(fin=false∧n=0∧0<n2)∨(fin=false∧n=0∧n2=0∧off<b)) :
  Calls Tryd.prog 51 #[.agg #[.int .i64 4,.int .i64 id,.int .i64 off,.int .i64 a,.int .i64 b,.int .i64 note,.bool fin,.slice A n c,.slice A2 n2 c2]] w fun e w'=>e=.returned (.bool false)∧Below w.heap.size w w':=by
 have M1:=Lib.hid (fun W=>Rv.may_t id W hid)
 have M2:=Lib.hid (fun W=>Rv.may_t off W hoff)
 have M3:=Lib.hid (fun W=>Rv.may_t a W ha)
 have M4:=Lib.hid (fun W=>Rv.may_t b W hb)
 have NA:=Lib.hid (fun W=>rn_at 4 #[.bool true,.bool true,.bool true,.bool true,.bool false,.bool false,.bool false] W (by decide) (by decide) rfl)
 have hni:¬ (120:Int)<(n:Int):=by omega
 have HBAD:=Lib.hid hbad
 clear hid hoff ha hb hbad
 go_enter Tryd.func51,Tryd.ntmps51
 go_wp2_with (go_at_call 19;(with_reducible first | refine (M1.out _).mono ?_ | refine (M2.out _).mono ?_ | refine (M3.out _).mono ?_ | refine (M4.out _).mono ?_);rintro e w' ⟨rfl,rfl⟩)
 refine (NA.out _).mono ?_
 rintro e w1 ⟨rfl,hb1⟩
 have HB1:Hid (Below w.heap.size w w1):=((Below.refl _ _).alloc (Nat.le_refl _) _).trans (hb1.mono (by simp))
 have hx:w1.heap[w.heap.size]?=some (.cells #[.int .i64 4,.int .i64 id,.int .i64 off,.int .i64 a,.int .i64 b,.int .i64 note,.bool fin,.slice A n c,.slice A2 n2 c2] 44 (0,0)):=(hb1.block _ (by simp)).trans (heap_alloc_new _ _)
 have hx2:(w1.alloc (.cells #[.bool true,.bool true,.bool true,.bool true,.bool false,.bool false,.bool false] 90)).heap[w.heap.size]?=some (.cells #[.int .i64 4,.int .i64 id,.int .i64 off,.int .i64 a,.int .i64 b,.int .i64 note,.bool fin,.slice A n c,.slice A2 n2 c2] 44 (0,0)):=(((Below.refl w1.heap.size w1).alloc (Nat.le_refl _) _).block _ (Array.getElem?_eq_some_iff.1 hx).1).trans hx
 have y0:=cell_of_row _ _ 0 _ _ _ hx2
 have y1:=cell_of_row _ _ 1 _ _ _ hx2
 have y2:=cell_of_row _ _ 2 _ _ _ hx2
 have y3:=cell_of_row _ _ 3 _ _ _ hx2
 have y4:=cell_of_row _ _ 4 _ _ _ hx2
 have y6:=cell_of_row _ _ 6 _ _ _ hx2
 have y7:=cell_of_row _ _ 7 _ _ _ hx2
 have y8:=cell_of_row _ _ 8 _ _ _ hx2
 have HB2:Hid (Below w.heap.size w (w1.alloc (.cells #[.bool true,.bool true,.bool true,.bool true,.bool false,.bool false,.bool false] 90))):=HB1.out.alloc HB1.out.size _
 clear hb1 hx hx2 M1 M2 M3 M4 NA
 go_upto_region 4 with (fail)
 dsimp only [List.append]
 rcases HBAD.out with h | h | h | h
 ·skip
  subst h
  clear HBAD
  go_wp2_with fail
  go_ret
  first
   | exact ⟨rfl,HB2.out⟩
   | exact ⟨ret_bool (by simp;try omega),HB2.out⟩
 ·skip
  obtain ⟨rfl,h⟩:=h
  have h2:(0:Int)<(n:Int):=by omega
  clear HBAD
  go_wp2_with fail
  go_ret
  first
   | exact ⟨rfl,HB2.out⟩
   | exact ⟨ret_bool (by simp;try omega),HB2.out⟩
 ·skip
  obtain ⟨rfl,rfl,h⟩:=h
  have h2:(0:Int)<(n2:Int):=by omega
  clear HBAD
  go_wp2_with fail
  go_ret
  first
   | exact ⟨rfl,HB2.out⟩
   | exact ⟨ret_bool (by simp;try omega),HB2.out⟩
 ·skip
  obtain ⟨rfl,rfl,rfl,h⟩:=h
  have h2:¬ b≤off:=by omega
  clear HBAD
  go_wp2_with fail
  go_ret
  first
   | exact ⟨rfl,HB2.out⟩
   | exact ⟨ret_bool (by simp;try omega),HB2.out⟩
theorem rno_5 (id off a b note:Int) (fin:Bool) (A:Option Addr) (n c:Nat) (A2:Option Addr) (n2 c2:Nat) (w:World) (hid:wid id≠0) (hoff:wid off≠0) (ha:wid a≠0) (hb:wid b≠0) (hn:n≤120) (hbad:((off != 0)=true)∨(off=0∧(b != 0)=true)∨(off=0∧b=0∧fin=true)∨(off=0∧b=0∧fin=false∧0<n)∨(off=0∧b=0∧fin=false∧n=0∧0<n2)) :
  Calls Tryd.prog 51 #[.agg #[.int .i64 5,.int .i64 id,.int .i64 off,.int .i64 a,.int .i64 b,.int .i64 note,.bool fin,.slice A n c,.slice A2 n2 c2]] w fun e w'=>e=.returned (.bool false)∧Below w.heap.size w w':=by
 have M1:=Lib.hid (fun W=>Rv.may_t id W hid)
 have M2:=Lib.hid (fun W=>Rv.may_t off W hoff)
 have M3:=Lib.hid (fun W=>Rv.may_t a W ha)
 have M4:=Lib.hid (fun W=>Rv.may_t b W hb)
 have NA:=Lib.hid (fun W=>rn_at 5 #[.bool true,.bool false,.bool true,.bool false,.bool false,.bool false,.bool false] W (by decide) (by decide) rfl)
 have hni:¬ (120:Int)<(n:Int):=by omega
 have HBAD:=Lib.hid hbad
 clear hid hoff ha hb hbad
 go_enter Tryd.func51,Tryd.ntmps51
 go_wp2_with (go_at_call 19;(with_reducible first | refine (M1.out _).mono ?_ | refine (M2.out _).mono ?_ | refine (M3.out _).mono ?_ | refine (M4.out _).mono ?_);rintro e w' ⟨rfl,rfl⟩)
 refine (NA.out _).mono ?_
 rintro e w1 ⟨rfl,hb1⟩
 have HB1:Hid (Below w.heap.size w w1):=((Below.refl _ _).alloc (Nat.le_refl _) _).trans (hb1.mono (by simp))
 have hx:w1.heap[w.heap.size]?=some (.cells #[.int .i64 5,.int .i64 id,.int .i64 off,.int .i64 a,.int .i64 b,.int .i64 note,.bool fin,.slice A n c,.slice A2 n2 c2] 44 (0,0)):=(hb1.block _ (by simp)).trans (heap_alloc_new _ _)
 have hx2:(w1.alloc (.cells #[.bool true,.bool false,.bool true,.bool false,.bool false,.bool false,.bool false] 90)).heap[w.heap.size]?=some (.cells #[.int .i64 5,.int .i64 id,.int .i64 off,.int .i64 a,.int .i64 b,.int .i64 note,.bool fin,.slice A n c,.slice A2 n2 c2] 44 (0,0)):=(((Below.refl w1.heap.size w1).alloc (Nat.le_refl _) _).block _ (Array.getElem?_eq_some_iff.1 hx).1).trans hx
 have y0:=cell_of_row _ _ 0 _ _ _ hx2
 have y1:=cell_of_row _ _ 1 _ _ _ hx2
 have y2:=cell_of_row _ _ 2 _ _ _ hx2
 have y3:=cell_of_row _ _ 3 _ _ _ hx2
 have y4:=cell_of_row _ _ 4 _ _ _ hx2
 have y6:=cell_of_row _ _ 6 _ _ _ hx2
 have y7:=cell_of_row _ _ 7 _ _ _ hx2
 have y8:=cell_of_row _ _ 8 _ _ _ hx2
 have HB2:Hid (Below w.heap.size w (w1.alloc (.cells #[.bool true,.bool false,.bool true,.bool false,.bool false,.bool false,.bool false] 90))):=HB1.out.alloc HB1.out.size _
 clear hb1 hx hx2 M1 M2 M3 M4 NA
 go_upto_region 4 with (fail)
 dsimp only [List.append]
 rcases HBAD.out with h | h | h | h | h
 ·skip
  have h2:¬ off=0:=by simpa using h
  clear HBAD
  go_wp2_with fail
  go_ret
  first
   | exact ⟨rfl,HB2.out⟩
   | exact ⟨ret_bool (by simp;try omega),HB2.out⟩
 ·skip
  obtain ⟨rfl,h⟩:=h
  have h2:¬ b=0:=by simpa using h
  clear HBAD
  go_wp2_with fail
  go_ret
  first
   | exact ⟨rfl,HB2.out⟩
   | exact ⟨ret_bool (by simp;try omega),HB2.out⟩
 ·skip
  obtain ⟨rfl,rfl,h⟩:=h
  subst h
  clear HBAD
  go_wp2_with fail
  go_ret
  first
   | exact ⟨rfl,HB2.out⟩
   | exact ⟨ret_bool (by simp;try omega),HB2.out⟩
 ·skip
  obtain ⟨rfl,rfl,rfl,h⟩:=h
  have h2:(0:Int)<(n:Int):=by omega
  clear HBAD
  go_wp2_with fail
  go_ret
  first
   | exact ⟨rfl,HB2.out⟩
   | exact ⟨ret_bool (by simp;try omega),HB2.out⟩
 ·skip
  obtain ⟨rfl,rfl,rfl,rfl,h⟩:=h
  have h2:(0:Int)<(n2:Int):=by omega
  clear HBAD
  go_wp2_with fail
  go_ret
  first
   | exact ⟨rfl,HB2.out⟩
   | exact ⟨ret_bool (by simp;try omega),HB2.out⟩
theorem rno_6 (id off a b note:Int) (fin:Bool) (A:Option Addr) (n c:Nat) (A2:Option Addr) (n2 c2:Nat) (w:World) (hid:wid id≠0) (hoff:wid off≠0) (ha:wid a≠0) (hb:wid b≠0) (hn:n≤120) (hbad:((id != 0)=true)∨(id=0∧(off != 0)=true)∨(id=0∧off=0∧(b != 0)=true)∨(id=0∧off=0∧b=0∧fin=true)∨(id=0∧off=0∧b=0∧fin=false∧0<n)∨(id=0∧off=0∧b=0∧fin=false∧n=0∧0<n2)) :
  Calls Tryd.prog 51 #[.agg #[.int .i64 6,.int .i64 id,.int .i64 off,.int .i64 a,.int .i64 b,.int .i64 note,.bool fin,.slice A n c,.slice A2 n2 c2]] w fun e w'=>e=.returned (.bool false)∧Below w.heap.size w w':=by
 have M1:=Lib.hid (fun W=>Rv.may_t id W hid)
 have M2:=Lib.hid (fun W=>Rv.may_t off W hoff)
 have M3:=Lib.hid (fun W=>Rv.may_t a W ha)
 have M4:=Lib.hid (fun W=>Rv.may_t b W hb)
 have NA:=Lib.hid (fun W=>rn_at 6 #[.bool false,.bool false,.bool true,.bool false,.bool false,.bool false,.bool false] W (by decide) (by decide) rfl)
 have hni:¬ (120:Int)<(n:Int):=by omega
 have HBAD:=Lib.hid hbad
 clear hid hoff ha hb hbad
 go_enter Tryd.func51,Tryd.ntmps51
 go_wp2_with (go_at_call 19;(with_reducible first | refine (M1.out _).mono ?_ | refine (M2.out _).mono ?_ | refine (M3.out _).mono ?_ | refine (M4.out _).mono ?_);rintro e w' ⟨rfl,rfl⟩)
 refine (NA.out _).mono ?_
 rintro e w1 ⟨rfl,hb1⟩
 have HB1:Hid (Below w.heap.size w w1):=((Below.refl _ _).alloc (Nat.le_refl _) _).trans (hb1.mono (by simp))
 have hx:w1.heap[w.heap.size]?=some (.cells #[.int .i64 6,.int .i64 id,.int .i64 off,.int .i64 a,.int .i64 b,.int .i64 note,.bool fin,.slice A n c,.slice A2 n2 c2] 44 (0,0)):=(hb1.block _ (by simp)).trans (heap_alloc_new _ _)
 have hx2:(w1.alloc (.cells #[.bool false,.bool false,.bool true,.bool false,.bool false,.bool false,.bool false] 90)).heap[w.heap.size]?=some (.cells #[.int .i64 6,.int .i64 id,.int .i64 off,.int .i64 a,.int .i64 b,.int .i64 note,.bool fin,.slice A n c,.slice A2 n2 c2] 44 (0,0)):=(((Below.refl w1.heap.size w1).alloc (Nat.le_refl _) _).block _ (Array.getElem?_eq_some_iff.1 hx).1).trans hx
 have y0:=cell_of_row _ _ 0 _ _ _ hx2
 have y1:=cell_of_row _ _ 1 _ _ _ hx2
 have y2:=cell_of_row _ _ 2 _ _ _ hx2
 have y3:=cell_of_row _ _ 3 _ _ _ hx2
 have y4:=cell_of_row _ _ 4 _ _ _ hx2
 have y6:=cell_of_row _ _ 6 _ _ _ hx2
 have y7:=cell_of_row _ _ 7 _ _ _ hx2
 have y8:=cell_of_row _ _ 8 _ _ _ hx2
 have HB2:Hid (Below w.heap.size w (w1.alloc (.cells #[.bool false,.bool false,.bool true,.bool false,.bool false,.bool false,.bool false] 90))):=HB1.out.alloc HB1.out.size _
 clear hb1 hx hx2 M1 M2 M3 M4 NA
 go_upto_region 4 with (fail)
 dsimp only [List.append]
 rcases HBAD.out with h | h | h | h | h | h
 ·skip
  have h2:¬ id=0:=by simpa using h
  clear HBAD
  go_wp2_with fail
  go_ret
  first
   | exact ⟨rfl,HB2.out⟩
   | exact ⟨ret_bool (by simp;try omega),HB2.out⟩
 ·skip
  obtain ⟨rfl,h⟩:=h
  have h2:¬ off=0:=by simpa using h
  clear HBAD
  go_wp2_with fail
  go_ret
  first
   | exact ⟨rfl,HB2.out⟩
   | exact ⟨ret_bool (by simp;try omega),HB2.out⟩
 ·skip
  obtain ⟨rfl,rfl,h⟩:=h
  have h2:¬ b=0:=by simpa using h
  clear HBAD
  go_wp2_with fail
  go_ret
  first
   | exact ⟨rfl,HB2.out⟩
   | exact ⟨ret_bool (by simp;try omega),HB2.out⟩
 ·skip
  obtain ⟨rfl,rfl,rfl,h⟩:=h
  subst h
  clear HBAD
  go_wp2_with fail
  go_ret
  first
   | exact ⟨rfl,HB2.out⟩
   | exact ⟨ret_bool (by simp;try omega),HB2.out⟩
 ·skip
  obtain ⟨rfl,rfl,rfl,rfl,h⟩:=h
  have h2:(0:Int)<(n:Int):=by omega
  clear HBAD
  go_wp2_with fail
  go_ret
  first
   | exact ⟨rfl,HB2.out⟩
   | exact ⟨ret_bool (by simp;try omega),HB2.out⟩
 ·skip
  obtain ⟨rfl,rfl,rfl,rfl,rfl,h⟩:=h
  have h2:(0:Int)<(n2:Int):=by omega
  clear HBAD
  go_wp2_with fail
  go_ret
  first
   | exact ⟨rfl,HB2.out⟩
   | exact ⟨ret_bool (by simp;try omega),HB2.out⟩
theorem rno_7 (id off a b note:Int) (fin:Bool) (A:Option Addr) (n c:Nat) (A2:Option Addr) (n2 c2:Nat) (w:World) (hid:wid id≠0) (hoff:wid off≠0) (ha:wid a≠0) (hb:wid b≠0) (hn:n≤120) (hbad:((off != 0)=true)∨(off=0∧(b != 0)=true)∨(off=0∧b=0∧fin=true)∨(off=0∧b=0∧fin=false∧0<n)∨(off=0∧b=0∧fin=false∧n=0∧0<n2)) :
  Calls Tryd.prog 51 #[.agg #[.int .i64 7,.int .i64 id,.int .i64 off,.int .i64 a,.int .i64 b,.int .i64 note,.bool fin,.slice A n c,.slice A2 n2 c2]] w fun e w'=>e=.returned (.bool false)∧Below w.heap.size w w':=by
 have M1:=Lib.hid (fun W=>Rv.may_t id W hid)
 have M2:=Lib.hid (fun W=>Rv.may_t off W hoff)
 have M3:=Lib.hid (fun W=>Rv.may_t a W ha)
 have M4:=Lib.hid (fun W=>Rv.may_t b W hb)
 have NA:=Lib.hid (fun W=>rn_at 7 #[.bool true,.bool false,.bool true,.bool false,.bool false,.bool false,.bool false] W (by decide) (by decide) rfl)
 have hni:¬ (120:Int)<(n:Int):=by omega
 have HBAD:=Lib.hid hbad
 clear hid hoff ha hb hbad
 go_enter Tryd.func51,Tryd.ntmps51
 go_wp2_with (go_at_call 19;(with_reducible first | refine (M1.out _).mono ?_ | refine (M2.out _).mono ?_ | refine (M3.out _).mono ?_ | refine (M4.out _).mono ?_);rintro e w' ⟨rfl,rfl⟩)
 refine (NA.out _).mono ?_
 rintro e w1 ⟨rfl,hb1⟩
 have HB1:Hid (Below w.heap.size w w1):=((Below.refl _ _).alloc (Nat.le_refl _) _).trans (hb1.mono (by simp))
 have hx:w1.heap[w.heap.size]?=some (.cells #[.int .i64 7,.int .i64 id,.int .i64 off,.int .i64 a,.int .i64 b,.int .i64 note,.bool fin,.slice A n c,.slice A2 n2 c2] 44 (0,0)):=(hb1.block _ (by simp)).trans (heap_alloc_new _ _)
 have hx2:(w1.alloc (.cells #[.bool true,.bool false,.bool true,.bool false,.bool false,.bool false,.bool false] 90)).heap[w.heap.size]?=some (.cells #[.int .i64 7,.int .i64 id,.int .i64 off,.int .i64 a,.int .i64 b,.int .i64 note,.bool fin,.slice A n c,.slice A2 n2 c2] 44 (0,0)):=(((Below.refl w1.heap.size w1).alloc (Nat.le_refl _) _).block _ (Array.getElem?_eq_some_iff.1 hx).1).trans hx
 have y0:=cell_of_row _ _ 0 _ _ _ hx2
 have y1:=cell_of_row _ _ 1 _ _ _ hx2
 have y2:=cell_of_row _ _ 2 _ _ _ hx2
 have y3:=cell_of_row _ _ 3 _ _ _ hx2
 have y4:=cell_of_row _ _ 4 _ _ _ hx2
 have y6:=cell_of_row _ _ 6 _ _ _ hx2
 have y7:=cell_of_row _ _ 7 _ _ _ hx2
 have y8:=cell_of_row _ _ 8 _ _ _ hx2
 have HB2:Hid (Below w.heap.size w (w1.alloc (.cells #[.bool true,.bool false,.bool true,.bool false,.bool false,.bool false,.bool false] 90))):=HB1.out.alloc HB1.out.size _
 clear hb1 hx hx2 M1 M2 M3 M4 NA
 go_upto_region 4 with (fail)
 dsimp only [List.append]
 rcases HBAD.out with h | h | h | h | h
 ·skip
  have h2:¬ off=0:=by simpa using h
  clear HBAD
  go_wp2_with fail
  go_ret
  first
   | exact ⟨rfl,HB2.out⟩
   | exact ⟨ret_bool (by simp;try omega),HB2.out⟩
 ·skip
  obtain ⟨rfl,h⟩:=h
  have h2:¬ b=0:=by simpa using h
  clear HBAD
  go_wp2_with fail
  go_ret
  first
   | exact ⟨rfl,HB2.out⟩
   | exact ⟨ret_bool (by simp;try omega),HB2.out⟩
 ·skip
  obtain ⟨rfl,rfl,h⟩:=h
  subst h
  clear HBAD
  go_wp2_with fail
  go_ret
  first
   | exact ⟨rfl,HB2.out⟩
   | exact ⟨ret_bool (by simp;try omega),HB2.out⟩
 ·skip
  obtain ⟨rfl,rfl,rfl,h⟩:=h
  have h2:(0:Int)<(n:Int):=by omega
  clear HBAD
  go_wp2_with fail
  go_ret
  first
   | exact ⟨rfl,HB2.out⟩
   | exact ⟨ret_bool (by simp;try omega),HB2.out⟩
 ·skip
  obtain ⟨rfl,rfl,rfl,rfl,h⟩:=h
  have h2:(0:Int)<(n2:Int):=by omega
  clear HBAD
  go_wp2_with fail
  go_ret
  first
   | exact ⟨rfl,HB2.out⟩
   | exact ⟨ret_bool (by simp;try omega),HB2.out⟩
theorem rno_8 (id off a b note:Int) (fin:Bool) (A:Option Addr) (n c:Nat) (A2:Option Addr) (n2 c2:Nat) (w:World) (hid:wid id≠0) (hoff:wid off≠0) (ha:wid a≠0) (hb:wid b≠0) (hn:n≤120) (hbad:((id != 0)=true)∨(id=0∧(off != 0)=true)∨(id=0∧off=0∧(b != 0)=true)∨(id=0∧off=0∧b=0∧0<n)∨(id=0∧off=0∧b=0∧n=0∧0<n2)) :
  Calls Tryd.prog 51 #[.agg #[.int .i64 8,.int .i64 id,.int .i64 off,.int .i64 a,.int .i64 b,.int .i64 note,.bool fin,.slice A n c,.slice A2 n2 c2]] w fun e w'=>e=.returned (.bool false)∧Below w.heap.size w w':=by
 have M1:=Lib.hid (fun W=>Rv.may_t id W hid)
 have M2:=Lib.hid (fun W=>Rv.may_t off W hoff)
 have M3:=Lib.hid (fun W=>Rv.may_t a W ha)
 have M4:=Lib.hid (fun W=>Rv.may_t b W hb)
 have NA:=Lib.hid (fun W=>rn_at 8 #[.bool false,.bool false,.bool true,.bool false,.bool true,.bool false,.bool false] W (by decide) (by decide) rfl)
 have hni:¬ (120:Int)<(n:Int):=by omega
 have HBAD:=Lib.hid hbad
 clear hid hoff ha hb hbad
 go_enter Tryd.func51,Tryd.ntmps51
 go_wp2_with (go_at_call 19;(with_reducible first | refine (M1.out _).mono ?_ | refine (M2.out _).mono ?_ | refine (M3.out _).mono ?_ | refine (M4.out _).mono ?_);rintro e w' ⟨rfl,rfl⟩)
 refine (NA.out _).mono ?_
 rintro e w1 ⟨rfl,hb1⟩
 have HB1:Hid (Below w.heap.size w w1):=((Below.refl _ _).alloc (Nat.le_refl _) _).trans (hb1.mono (by simp))
 have hx:w1.heap[w.heap.size]?=some (.cells #[.int .i64 8,.int .i64 id,.int .i64 off,.int .i64 a,.int .i64 b,.int .i64 note,.bool fin,.slice A n c,.slice A2 n2 c2] 44 (0,0)):=(hb1.block _ (by simp)).trans (heap_alloc_new _ _)
 have hx2:(w1.alloc (.cells #[.bool false,.bool false,.bool true,.bool false,.bool true,.bool false,.bool false] 90)).heap[w.heap.size]?=some (.cells #[.int .i64 8,.int .i64 id,.int .i64 off,.int .i64 a,.int .i64 b,.int .i64 note,.bool fin,.slice A n c,.slice A2 n2 c2] 44 (0,0)):=(((Below.refl w1.heap.size w1).alloc (Nat.le_refl _) _).block _ (Array.getElem?_eq_some_iff.1 hx).1).trans hx
 have y0:=cell_of_row _ _ 0 _ _ _ hx2
 have y1:=cell_of_row _ _ 1 _ _ _ hx2
 have y2:=cell_of_row _ _ 2 _ _ _ hx2
 have y3:=cell_of_row _ _ 3 _ _ _ hx2
 have y4:=cell_of_row _ _ 4 _ _ _ hx2
 have y6:=cell_of_row _ _ 6 _ _ _ hx2
 have y7:=cell_of_row _ _ 7 _ _ _ hx2
 have y8:=cell_of_row _ _ 8 _ _ _ hx2
 have HB2:Hid (Below w.heap.size w (w1.alloc (.cells #[.bool false,.bool false,.bool true,.bool false,.bool true,.bool false,.bool false] 90))):=HB1.out.alloc HB1.out.size _
 clear hb1 hx hx2 M1 M2 M3 M4 NA
 go_upto_region 4 with (fail)
 dsimp only [List.append]
 rcases HBAD.out with h | h | h | h | h
 ·skip
  have h2:¬ id=0:=by simpa using h
  clear HBAD
  go_wp2_with fail
  go_ret
  first
   | exact ⟨rfl,HB2.out⟩
   | exact ⟨ret_bool (by simp;try omega),HB2.out⟩
 ·skip
  obtain ⟨rfl,h⟩:=h
  have h2:¬ off=0:=by simpa using h
  clear HBAD
  go_wp2_with fail
  go_ret
  first
   | exact ⟨rfl,HB2.out⟩
   | exact ⟨ret_bool (by simp;try omega),HB2.out⟩
 ·skip
  obtain ⟨rfl,rfl,h⟩:=h
  have h2:¬ b=0:=by simpa using h
  clear HBAD
  go_wp2_with fail
  go_ret
  first
   | exact ⟨rfl,HB2.out⟩
   | exact ⟨ret_bool (by simp;try omega),HB2.out⟩
 ·skip
  obtain ⟨rfl,rfl,rfl,h⟩:=h
  have h2:(0:Int)<(n:Int):=by omega
  clear HBAD
  go_wp2_with fail
  go_ret
  first
   | exact ⟨rfl,HB2.out⟩
   | exact ⟨ret_bool (by simp;try omega),HB2.out⟩
 ·skip
  obtain ⟨rfl,rfl,rfl,rfl,h⟩:=h
  have h2:(0:Int)<(n2:Int):=by omega
  clear HBAD
  go_wp2_with fail
  go_ret
  first
   | exact ⟨rfl,HB2.out⟩
   | exact ⟨ret_bool (by simp;try omega),HB2.out⟩
theorem rno_9 (id off a b note:Int) (fin:Bool) (A:Option Addr) (n c:Nat) (A2:Option Addr) (n2 c2:Nat) (w:World) (hid:wid id≠0) (hoff:wid off≠0) (ha:wid a≠0) (hb:wid b≠0) (hn:n≤120) (hbad:((id != 0)=true)∨(id=0∧(off != 0)=true)∨(id=0∧off=0∧(a != 0)=true)∨(id=0∧off=0∧a=0∧(b != 0)=true)∨(id=0∧off=0∧a=0∧b=0∧fin=true)∨(id=0∧off=0∧a=0∧b=0∧fin=false∧0<n2)∨(id=0∧off=0∧a=0∧b=0∧fin=false∧n2=0∧n=0)) :
  Calls Tryd.prog 51 #[.agg #[.int .i64 9,.int .i64 id,.int .i64 off,.int .i64 a,.int .i64 b,.int .i64 note,.bool fin,.slice A n c,.slice A2 n2 c2]] w fun e w'=>e=.returned (.bool false)∧Below w.heap.size w w':=by
 have M1:=Lib.hid (fun W=>Rv.may_t id W hid)
 have M2:=Lib.hid (fun W=>Rv.may_t off W hoff)
 have M3:=Lib.hid (fun W=>Rv.may_t a W ha)
 have M4:=Lib.hid (fun W=>Rv.may_t b W hb)
 have NA:=Lib.hid (fun W=>rn_at 9 #[.bool false,.bool false,.bool false,.bool false,.bool false,.bool true,.bool false] W (by decide) (by decide) rfl)
 have hni:¬ (120:Int)<(n:Int):=by omega
 have HBAD:=Lib.hid hbad
 clear hid hoff ha hb hbad
 go_enter Tryd.func51,Tryd.ntmps51
 go_wp2_with (go_at_call 19;(with_reducible first | refine (M1.out _).mono ?_ | refine (M2.out _).mono ?_ | refine (M3.out _).mono ?_ | refine (M4.out _).mono ?_);rintro e w' ⟨rfl,rfl⟩)
 refine (NA.out _).mono ?_
 rintro e w1 ⟨rfl,hb1⟩
 have HB1:Hid (Below w.heap.size w w1):=((Below.refl _ _).alloc (Nat.le_refl _) _).trans (hb1.mono (by simp))
 have hx:w1.heap[w.heap.size]?=some (.cells #[.int .i64 9,.int .i64 id,.int .i64 off,.int .i64 a,.int .i64 b,.int .i64 note,.bool fin,.slice A n c,.slice A2 n2 c2] 44 (0,0)):=(hb1.block _ (by simp)).trans (heap_alloc_new _ _)
 have hx2:(w1.alloc (.cells #[.bool false,.bool false,.bool false,.bool false,.bool false,.bool true,.bool false] 90)).heap[w.heap.size]?=some (.cells #[.int .i64 9,.int .i64 id,.int .i64 off,.int .i64 a,.int .i64 b,.int .i64 note,.bool fin,.slice A n c,.slice A2 n2 c2] 44 (0,0)):=(((Below.refl w1.heap.size w1).alloc (Nat.le_refl _) _).block _ (Array.getElem?_eq_some_iff.1 hx).1).trans hx
 have y0:=cell_of_row _ _ 0 _ _ _ hx2
 have y1:=cell_of_row _ _ 1 _ _ _ hx2
 have y2:=cell_of_row _ _ 2 _ _ _ hx2
 have y3:=cell_of_row _ _ 3 _ _ _ hx2
 have y4:=cell_of_row _ _ 4 _ _ _ hx2
 have y6:=cell_of_row _ _ 6 _ _ _ hx2
 have y7:=cell_of_row _ _ 7 _ _ _ hx2
 have y8:=cell_of_row _ _ 8 _ _ _ hx2
 have HB2:Hid (Below w.heap.size w (w1.alloc (.cells #[.bool false,.bool false,.bool false,.bool false,.bool false,.bool true,.bool false] 90))):=HB1.out.alloc HB1.out.size _
 clear hb1 hx hx2 M1 M2 M3 M4 NA
 go_upto_region 4 with (fail)
 dsimp only [List.append]
 rcases HBAD.out with h | h | h | h | h | h | h
 ·skip
  have h2:¬ id=0:=by simpa using h
  clear HBAD
  go_wp2_with fail
  go_ret
  first
   | exact ⟨rfl,HB2.out⟩
   | exact ⟨ret_bool (by simp;try omega),HB2.out⟩
 ·skip
  obtain ⟨rfl,h⟩:=h
  have h2:¬ off=0:=by simpa using h
  clear HBAD
  go_wp2_with fail
  go_ret
  first
   | exact ⟨rfl,HB2.out⟩
   | exact ⟨ret_bool (by simp;try omega),HB2.out⟩
 ·skip
  obtain ⟨rfl,rfl,h⟩:=h
  have h2:¬ a=0:=by simpa using h
  clear HBAD
  go_wp2_with fail
  go_ret
  first
   | exact ⟨rfl,HB2.out⟩
   | exact ⟨ret_bool (by simp;try omega),HB2.out⟩
 ·skip
  obtain ⟨rfl,rfl,rfl,h⟩:=h
  have h2:¬ b=0:=by simpa using h
  clear HBAD
  go_wp2_with fail
  go_ret
  first
   | exact ⟨rfl,HB2.out⟩
   | exact ⟨ret_bool (by simp;try omega),HB2.out⟩
 ·skip
  obtain ⟨rfl,rfl,rfl,rfl,h⟩:=h
  subst h
  clear HBAD
  go_wp2_with fail
  go_ret
  first
   | exact ⟨rfl,HB2.out⟩
   | exact ⟨ret_bool (by simp;try omega),HB2.out⟩
 ·skip
  obtain ⟨rfl,rfl,rfl,rfl,rfl,h⟩:=h
  have h2:(0:Int)<(n2:Int):=by omega
  clear HBAD
  go_wp2_with fail
  go_ret
  first
   | exact ⟨rfl,HB2.out⟩
   | exact ⟨ret_bool (by simp;try omega),HB2.out⟩
 ·skip
  obtain ⟨rfl,rfl,rfl,rfl,rfl,rfl,h⟩:=h
  subst h
  clear HBAD
  go_wp2_with fail
  go_ret
  first
   | exact ⟨rfl,HB2.out⟩
   | exact ⟨ret_bool (by simp;try omega),HB2.out⟩
theorem rno_10 (id off a b note:Int) (fin:Bool) (A:Option Addr) (n c:Nat) (A2:Option Addr) (n2 c2:Nat) (w:World) (hid:wid id≠0) (hoff:wid off≠0) (ha:wid a≠0) (hb:wid b≠0) (hn:n≤120) (hbad:((off != 0)=true)∨(off=0∧(a != 0)=true)∨(off=0∧a=0∧(b != 0)=true)∨(off=0∧a=0∧b=0∧fin=true)∨(off=0∧a=0∧b=0∧fin=false∧0<n)∨(off=0∧a=0∧b=0∧fin=false∧n=0∧0<n2)) :
  Calls Tryd.prog 51 #[.agg #[.int .i64 10,.int .i64 id,.int .i64 off,.int .i64 a,.int .i64 b,.int .i64 note,.bool fin,.slice A n c,.slice A2 n2 c2]] w fun e w'=>e=.returned (.bool false)∧Below w.heap.size w w':=by
 have M1:=Lib.hid (fun W=>Rv.may_t id W hid)
 have M2:=Lib.hid (fun W=>Rv.may_t off W hoff)
 have M3:=Lib.hid (fun W=>Rv.may_t a W ha)
 have M4:=Lib.hid (fun W=>Rv.may_t b W hb)
 have NA:=Lib.hid (fun W=>rn_at 10 #[.bool true,.bool false,.bool false,.bool false,.bool false,.bool false,.bool false] W (by decide) (by decide) rfl)
 have hni:¬ (120:Int)<(n:Int):=by omega
 have HBAD:=Lib.hid hbad
 clear hid hoff ha hb hbad
 go_enter Tryd.func51,Tryd.ntmps51
 go_wp2_with (go_at_call 19;(with_reducible first | refine (M1.out _).mono ?_ | refine (M2.out _).mono ?_ | refine (M3.out _).mono ?_ | refine (M4.out _).mono ?_);rintro e w' ⟨rfl,rfl⟩)
 refine (NA.out _).mono ?_
 rintro e w1 ⟨rfl,hb1⟩
 have HB1:Hid (Below w.heap.size w w1):=((Below.refl _ _).alloc (Nat.le_refl _) _).trans (hb1.mono (by simp))
 have hx:w1.heap[w.heap.size]?=some (.cells #[.int .i64 10,.int .i64 id,.int .i64 off,.int .i64 a,.int .i64 b,.int .i64 note,.bool fin,.slice A n c,.slice A2 n2 c2] 44 (0,0)):=(hb1.block _ (by simp)).trans (heap_alloc_new _ _)
 have hx2:(w1.alloc (.cells #[.bool true,.bool false,.bool false,.bool false,.bool false,.bool false,.bool false] 90)).heap[w.heap.size]?=some (.cells #[.int .i64 10,.int .i64 id,.int .i64 off,.int .i64 a,.int .i64 b,.int .i64 note,.bool fin,.slice A n c,.slice A2 n2 c2] 44 (0,0)):=(((Below.refl w1.heap.size w1).alloc (Nat.le_refl _) _).block _ (Array.getElem?_eq_some_iff.1 hx).1).trans hx
 have y0:=cell_of_row _ _ 0 _ _ _ hx2
 have y1:=cell_of_row _ _ 1 _ _ _ hx2
 have y2:=cell_of_row _ _ 2 _ _ _ hx2
 have y3:=cell_of_row _ _ 3 _ _ _ hx2
 have y4:=cell_of_row _ _ 4 _ _ _ hx2
 have y6:=cell_of_row _ _ 6 _ _ _ hx2
 have y7:=cell_of_row _ _ 7 _ _ _ hx2
 have y8:=cell_of_row _ _ 8 _ _ _ hx2
 have HB2:Hid (Below w.heap.size w (w1.alloc (.cells #[.bool true,.bool false,.bool false,.bool false,.bool false,.bool false,.bool false] 90))):=HB1.out.alloc HB1.out.size _
 clear hb1 hx hx2 M1 M2 M3 M4 NA
 go_upto_region 4 with (fail)
 dsimp only [List.append]
 rcases HBAD.out with h | h | h | h | h | h
 ·skip
  have h2:¬ off=0:=by simpa using h
  clear HBAD
  go_wp2_with fail
  go_ret
  first
   | exact ⟨rfl,HB2.out⟩
   | exact ⟨ret_bool (by simp;try omega),HB2.out⟩
 ·skip
  obtain ⟨rfl,h⟩:=h
  have h2:¬ a=0:=by simpa using h
  clear HBAD
  go_wp2_with fail
  go_ret
  first
   | exact ⟨rfl,HB2.out⟩
   | exact ⟨ret_bool (by simp;try omega),HB2.out⟩
 ·skip
  obtain ⟨rfl,rfl,h⟩:=h
  have h2:¬ b=0:=by simpa using h
  clear HBAD
  go_wp2_with fail
  go_ret
  first
   | exact ⟨rfl,HB2.out⟩
   | exact ⟨ret_bool (by simp;try omega),HB2.out⟩
 ·skip
  obtain ⟨rfl,rfl,rfl,h⟩:=h
  subst h
  clear HBAD
  go_wp2_with fail
  go_ret
  first
   | exact ⟨rfl,HB2.out⟩
   | exact ⟨ret_bool (by simp;try omega),HB2.out⟩
 ·skip
  obtain ⟨rfl,rfl,rfl,rfl,h⟩:=h
  have h2:(0:Int)<(n:Int):=by omega
  clear HBAD
  go_wp2_with fail
  go_ret
  first
   | exact ⟨rfl,HB2.out⟩
   | exact ⟨ret_bool (by simp;try omega),HB2.out⟩
 ·skip
  obtain ⟨rfl,rfl,rfl,rfl,rfl,h⟩:=h
  have h2:(0:Int)<(n2:Int):=by omega
  clear HBAD
  go_wp2_with fail
  go_ret
  first
   | exact ⟨rfl,HB2.out⟩
   | exact ⟨ret_bool (by simp;try omega),HB2.out⟩
theorem rno_11 (id off a b note:Int) (fin:Bool) (A:Option Addr) (n c:Nat) (A2:Option Addr) (n2 c2:Nat) (w:World) (hid:wid id≠0) (hoff:wid off≠0) (ha:wid a≠0) (hb:wid b≠0) (hn:n≤120) (hbad:((off != 0)=true)∨(off=0∧(a != 0)=true)∨(off=0∧a=0∧(b != 0)=true)∨(off=0∧a=0∧b=0∧fin=true)∨(off=0∧a=0∧b=0∧fin=false∧0<n)∨(off=0∧a=0∧b=0∧fin=false∧n=0∧0<n2)) :
  Calls Tryd.prog 51 #[.agg #[.int .i64 11,.int .i64 id,.int .i64 off,.int .i64 a,.int .i64 b,.int .i64 note,.bool fin,.slice A n c,.slice A2 n2 c2]] w fun e w'=>e=.returned (.bool false)∧Below w.heap.size w w':=by
 have M1:=Lib.hid (fun W=>Rv.may_t id W hid)
 have M2:=Lib.hid (fun W=>Rv.may_t off W hoff)
 have M3:=Lib.hid (fun W=>Rv.may_t a W ha)
 have M4:=Lib.hid (fun W=>Rv.may_t b W hb)
 have NA:=Lib.hid (fun W=>rn_at 11 #[.bool true,.bool false,.bool false,.bool false,.bool false,.bool false,.bool false] W (by decide) (by decide) rfl)
 have hni:¬ (120:Int)<(n:Int):=by omega
 have HBAD:=Lib.hid hbad
 clear hid hoff ha hb hbad
 go_enter Tryd.func51,Tryd.ntmps51
 go_wp2_with (go_at_call 19;(with_reducible first | refine (M1.out _).mono ?_ | refine (M2.out _).mono ?_ | refine (M3.out _).mono ?_ | refine (M4.out _).mono ?_);rintro e w' ⟨rfl,rfl⟩)
 refine (NA.out _).mono ?_
 rintro e w1 ⟨rfl,hb1⟩
 have HB1:Hid (Below w.heap.size w w1):=((Below.refl _ _).alloc (Nat.le_refl _) _).trans (hb1.mono (by simp))
 have hx:w1.heap[w.heap.size]?=some (.cells #[.int .i64 11,.int .i64 id,.int .i64 off,.int .i64 a,.int .i64 b,.int .i64 note,.bool fin,.slice A n c,.slice A2 n2 c2] 44 (0,0)):=(hb1.block _ (by simp)).trans (heap_alloc_new _ _)
 have hx2:(w1.alloc (.cells #[.bool true,.bool false,.bool false,.bool false,.bool false,.bool false,.bool false] 90)).heap[w.heap.size]?=some (.cells #[.int .i64 11,.int .i64 id,.int .i64 off,.int .i64 a,.int .i64 b,.int .i64 note,.bool fin,.slice A n c,.slice A2 n2 c2] 44 (0,0)):=(((Below.refl w1.heap.size w1).alloc (Nat.le_refl _) _).block _ (Array.getElem?_eq_some_iff.1 hx).1).trans hx
 have y0:=cell_of_row _ _ 0 _ _ _ hx2
 have y1:=cell_of_row _ _ 1 _ _ _ hx2
 have y2:=cell_of_row _ _ 2 _ _ _ hx2
 have y3:=cell_of_row _ _ 3 _ _ _ hx2
 have y4:=cell_of_row _ _ 4 _ _ _ hx2
 have y6:=cell_of_row _ _ 6 _ _ _ hx2
 have y7:=cell_of_row _ _ 7 _ _ _ hx2
 have y8:=cell_of_row _ _ 8 _ _ _ hx2
 have HB2:Hid (Below w.heap.size w (w1.alloc (.cells #[.bool true,.bool false,.bool false,.bool false,.bool false,.bool false,.bool false] 90))):=HB1.out.alloc HB1.out.size _
 clear hb1 hx hx2 M1 M2 M3 M4 NA
 go_upto_region 4 with (fail)
 dsimp only [List.append]
 rcases HBAD.out with h | h | h | h | h | h
 ·skip
  have h2:¬ off=0:=by simpa using h
  clear HBAD
  go_wp2_with fail
  go_ret
  first
   | exact ⟨rfl,HB2.out⟩
   | exact ⟨ret_bool (by simp;try omega),HB2.out⟩
 ·skip
  obtain ⟨rfl,h⟩:=h
  have h2:¬ a=0:=by simpa using h
  clear HBAD
  go_wp2_with fail
  go_ret
  first
   | exact ⟨rfl,HB2.out⟩
   | exact ⟨ret_bool (by simp;try omega),HB2.out⟩
 ·skip
  obtain ⟨rfl,rfl,h⟩:=h
  have h2:¬ b=0:=by simpa using h
  clear HBAD
  go_wp2_with fail
  go_ret
  first
   | exact ⟨rfl,HB2.out⟩
   | exact ⟨ret_bool (by simp;try omega),HB2.out⟩
 ·skip
  obtain ⟨rfl,rfl,rfl,h⟩:=h
  subst h
  clear HBAD
  go_wp2_with fail
  go_ret
  first
   | exact ⟨rfl,HB2.out⟩
   | exact ⟨ret_bool (by simp;try omega),HB2.out⟩
 ·skip
  obtain ⟨rfl,rfl,rfl,rfl,h⟩:=h
  have h2:(0:Int)<(n:Int):=by omega
  clear HBAD
  go_wp2_with fail
  go_ret
  first
   | exact ⟨rfl,HB2.out⟩
   | exact ⟨ret_bool (by simp;try omega),HB2.out⟩
 ·skip
  obtain ⟨rfl,rfl,rfl,rfl,rfl,h⟩:=h
  have h2:(0:Int)<(n2:Int):=by omega
  clear HBAD
  go_wp2_with fail
  go_ret
  first
   | exact ⟨rfl,HB2.out⟩
   | exact ⟨ret_bool (by simp;try omega),HB2.out⟩
theorem rno_12 (id off a b note:Int) (fin:Bool) (A:Option Addr) (n c:Nat) (A2:Option Addr) (n2 c2:Nat) (w:World) (hid:wid id≠0) (hoff:wid off≠0) (ha:wid a≠0) (hb:wid b≠0) (hn:n≤120) (hbad:((id != 0)=true)∨(id=0∧(off != 0)=true)∨(id=0∧off=0∧(b != 0)=true)∨(id=0∧off=0∧b=0∧fin=true)∨(id=0∧off=0∧b=0∧fin=false∧0<n)∨(id=0∧off=0∧b=0∧fin=false∧n=0∧0<n2)) :
  Calls Tryd.prog 51 #[.agg #[.int .i64 12,.int .i64 id,.int .i64 off,.int .i64 a,.int .i64 b,.int .i64 note,.bool fin,.slice A n c,.slice A2 n2 c2]] w fun e w'=>e=.returned (.bool false)∧Below w.heap.size w w':=by
 have M1:=Lib.hid (fun W=>Rv.may_t id W hid)
 have M2:=Lib.hid (fun W=>Rv.may_t off W hoff)
 have M3:=Lib.hid (fun W=>Rv.may_t a W ha)
 have M4:=Lib.hid (fun W=>Rv.may_t b W hb)
 have NA:=Lib.hid (fun W=>rn_at 12 #[.bool false,.bool false,.bool true,.bool false,.bool false,.bool false,.bool false] W (by decide) (by decide) rfl)
 have hni:¬ (120:Int)<(n:Int):=by omega
 have HBAD:=Lib.hid hbad
 clear hid hoff ha hb hbad
 go_enter Tryd.func51,Tryd.ntmps51
 go_wp2_with (go_at_call 19;(with_reducible first | refine (M1.out _).mono ?_ | refine (M2.out _).mono ?_ | refine (M3.out _).mono ?_ | refine (M4.out _).mono ?_);rintro e w' ⟨rfl,rfl⟩)
 refine (NA.out _).mono ?_
 rintro e w1 ⟨rfl,hb1⟩
 have HB1:Hid (Below w.heap.size w w1):=((Below.refl _ _).alloc (Nat.le_refl _) _).trans (hb1.mono (by simp))
 have hx:w1.heap[w.heap.size]?=some (.cells #[.int .i64 12,.int .i64 id,.int .i64 off,.int .i64 a,.int .i64 b,.int .i64 note,.bool fin,.slice A n c,.slice A2 n2 c2] 44 (0,0)):=(hb1.block _ (by simp)).trans (heap_alloc_new _ _)
 have hx2:(w1.alloc (.cells #[.bool false,.bool false,.bool true,.bool false,.bool false,.bool false,.bool false] 90)).heap[w.heap.size]?=some (.cells #[.int .i64 12,.int .i64 id,.int .i64 off,.int .i64 a,.int .i64 b,.int .i64 note,.bool fin,.slice A n c,.slice A2 n2 c2] 44 (0,0)):=(((Below.refl w1.heap.size w1).alloc (Nat.le_refl _) _).block _ (Array.getElem?_eq_some_iff.1 hx).1).trans hx
 have y0:=cell_of_row _ _ 0 _ _ _ hx2
 have y1:=cell_of_row _ _ 1 _ _ _ hx2
 have y2:=cell_of_row _ _ 2 _ _ _ hx2
 have y3:=cell_of_row _ _ 3 _ _ _ hx2
 have y4:=cell_of_row _ _ 4 _ _ _ hx2
 have y6:=cell_of_row _ _ 6 _ _ _ hx2
 have y7:=cell_of_row _ _ 7 _ _ _ hx2
 have y8:=cell_of_row _ _ 8 _ _ _ hx2
 have HB2:Hid (Below w.heap.size w (w1.alloc (.cells #[.bool false,.bool false,.bool true,.bool false,.bool false,.bool false,.bool false] 90))):=HB1.out.alloc HB1.out.size _
 clear hb1 hx hx2 M1 M2 M3 M4 NA
 go_upto_region 4 with (fail)
 dsimp only [List.append]
 rcases HBAD.out with h | h | h | h | h | h
 ·skip
  have h2:¬ id=0:=by simpa using h
  clear HBAD
  go_wp2_with fail
  go_ret
  first
   | exact ⟨rfl,HB2.out⟩
   | exact ⟨ret_bool (by simp;try omega),HB2.out⟩
 ·skip
  obtain ⟨rfl,h⟩:=h
  have h2:¬ off=0:=by simpa using h
  clear HBAD
  go_wp2_with fail
  go_ret
  first
   | exact ⟨rfl,HB2.out⟩
   | exact ⟨ret_bool (by simp;try omega),HB2.out⟩
 ·skip
  obtain ⟨rfl,rfl,h⟩:=h
  have h2:¬ b=0:=by simpa using h
  clear HBAD
  go_wp2_with fail
  go_ret
  first
   | exact ⟨rfl,HB2.out⟩
   | exact ⟨ret_bool (by simp;try omega),HB2.out⟩
 ·skip
  obtain ⟨rfl,rfl,rfl,h⟩:=h
  subst h
  clear HBAD
  go_wp2_with fail
  go_ret
  first
   | exact ⟨rfl,HB2.out⟩
   | exact ⟨ret_bool (by simp;try omega),HB2.out⟩
 ·skip
  obtain ⟨rfl,rfl,rfl,rfl,h⟩:=h
  have h2:(0:Int)<(n:Int):=by omega
  clear HBAD
  go_wp2_with fail
  go_ret
  first
   | exact ⟨rfl,HB2.out⟩
   | exact ⟨ret_bool (by simp;try omega),HB2.out⟩
 ·skip
  obtain ⟨rfl,rfl,rfl,rfl,rfl,h⟩:=h
  have h2:(0:Int)<(n2:Int):=by omega
  clear HBAD
  go_wp2_with fail
  go_ret
  first
   | exact ⟨rfl,HB2.out⟩
   | exact ⟨ret_bool (by simp;try omega),HB2.out⟩
end Go.Proofs.YtccljifichaieaaDoor
