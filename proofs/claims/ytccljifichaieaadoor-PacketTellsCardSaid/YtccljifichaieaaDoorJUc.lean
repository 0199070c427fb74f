/- Joined texts. Conditions: as each theorem lists them. -/
import Derived.Test.YtccljifichaieaaDoorJRz
import Derived.BigQuiet
import Derived.Outline
import Derived.BigGuard
import Derived.Deep.DeepCutAuto
set_option linter.unusedSimpArgs false
set_option linter.unusedVariables false
set_option maxRecDepth 100000
set_option maxHeartbeats 8000000
namespace Go.Proofs.YtccljifichaieaaDoor
open Go Go.RowKit
theorem rpre_low (k:Int) (id off a b note:Int) (fin:Bool) (A:Option Addr) (n c:Nat) (A2:Option Addr) (n2 c2:Nat) (w:World) (hk:k<1) :
  Calls Tryd.prog 51 #[.agg #[.int .i64 k,.int .i64 id,.int .i64 off,.int .i64 a,.int .i64 b,.int .i64 note,.bool fin,.slice A n c,.slice A2 n2 c2]] w fun e w'=>e=.returned (.bool false)∧Below w.heap.size w w':=by
 go_enter Tryd.func51,Tryd.ntmps51
 go_wp2_with fail
 go_ret
 exact ⟨rfl,(Below.refl _ _).alloc (Nat.le_refl _) _⟩
theorem rpre_high (k:Int) (id off a b note:Int) (fin:Bool) (A:Option Addr) (n c:Nat) (A2:Option Addr) (n2 c2:Nat) (w:World) (hk:¬ k<1) (hk2:12<k) :
  Calls Tryd.prog 51 #[.agg #[.int .i64 k,.int .i64 id,.int .i64 off,.int .i64 a,.int .i64 b,.int .i64 note,.bool fin,.slice A n c,.slice A2 n2 c2]] w fun e w'=>e=.returned (.bool false)∧Below w.heap.size w w':=by
 go_enter Tryd.func51,Tryd.ntmps51
 go_wp2_with fail
 go_ret
 exact ⟨rfl,(Below.refl _ _).alloc (Nat.le_refl _) _⟩
theorem rpre_0 (k:Int) (id off a b note:Int) (fin:Bool) (A:Option Addr) (n c:Nat) (A2:Option Addr) (n2 c2:Nat) (w:World) (hk:¬ k<1) (hk2:¬ 12<k) (hid:wid id=0) :
  Calls Tryd.prog 51 #[.agg #[.int .i64 k,.int .i64 id,.int .i64 off,.int .i64 a,.int .i64 b,.int .i64 note,.bool fin,.slice A n c,.slice A2 n2 c2]] w fun e w'=>e=.returned (.bool false)∧Below w.heap.size w w':=by
 have M1:=Lib.hid (fun W=>Rv.may_f id W hid)
 clear hid
 go_enter Tryd.func51,Tryd.ntmps51
 go_wp2_with (go_at_call 19;(with_reducible first | refine (M1.out _).mono ?_);rintro e w' ⟨rfl,rfl⟩)
 go_ret
 exact ⟨rfl,(Below.refl _ _).alloc (Nat.le_refl _) _⟩
theorem rpre_1 (k:Int) (id off a b note:Int) (fin:Bool) (A:Option Addr) (n c:Nat) (A2:Option Addr) (n2 c2:Nat) (w:World) (hk:¬ k<1) (hk2:¬ 12<k) (hid:wid id≠0) (hoff:wid off=0) :
  Calls Tryd.prog 51 #[.agg #[.int .i64 k,.int .i64 id,.int .i64 off,.int .i64 a,.int .i64 b,.int .i64 note,.bool fin,.slice A n c,.slice A2 n2 c2]] w fun e w'=>e=.returned (.bool false)∧Below w.heap.size w w':=by
 have M1:=Lib.hid (fun W=>Rv.may_t id W hid)
 have M2:=Lib.hid (fun W=>Rv.may_f off W hoff)
 clear hid hoff
 go_enter Tryd.func51,Tryd.ntmps51
 go_wp2_with (go_at_call 19;(with_reducible first | refine (M1.out _).mono ?_ | refine (M2.out _).mono ?_);rintro e w' ⟨rfl,rfl⟩)
 go_ret
 exact ⟨rfl,(Below.refl _ _).alloc (Nat.le_refl _) _⟩
theorem rpre_2 (k:Int) (id off a b note:Int) (fin:Bool) (A:Option Addr) (n c:Nat) (A2:Option Addr) (n2 c2:Nat) (w:World) (hk:¬ k<1) (hk2:¬ 12<k) (hid:wid id≠0) (hoff:wid off≠0) (ha:wid a=0) :
  Calls Tryd.prog 51 #[.agg #[.int .i64 k,.int .i64 id,.int .i64 off,.int .i64 a,.int .i64 b,.int .i64 note,.bool fin,.slice A n c,.slice A2 n2 c2]] w fun e w'=>e=.returned (.bool false)∧Below w.heap.size w w':=by
 have M1:=Lib.hid (fun W=>Rv.may_t id W hid)
 have M2:=Lib.hid (fun W=>Rv.may_t off W hoff)
 have M3:=Lib.hid (fun W=>Rv.may_f a W ha)
 clear hid hoff ha
 go_enter Tryd.func51,Tryd.ntmps51
 go_wp2_with (go_at_call 19;(with_reducible first | refine (M1.out _).mono ?_ | refine (M2.out _).mono ?_ | refine (M3.out _).mono ?_);rintro e w' ⟨rfl,rfl⟩)
 go_ret
 exact ⟨rfl,(Below.refl _ _).alloc (Nat.le_refl _) _⟩
theorem rpre_3 (k:Int) (id off a b note:Int) (fin:Bool) (A:Option Addr) (n c:Nat) (A2:Option Addr) (n2 c2:Nat) (w:World) (hk:¬ k<1) (hk2:¬ 12<k) (hid:wid id≠0) (hoff:wid off≠0) (ha:wid a≠0) (hb:wid b=0) :
  Calls Tryd.prog 51 #[.agg #[.int .i64 k,.int .i64 id,.int .i64 off,.int .i64 a,.int .i64 b,.int .i64 note,.bool fin,.slice A n c,.slice A2 n2 c2]] w fun e w'=>e=.returned (.bool false)∧Below w.heap.size w w':=by
 have M1:=Lib.hid (fun W=>Rv.may_t id W hid)
 have M2:=Lib.hid (fun W=>Rv.may_t off W hoff)
 have M3:=Lib.hid (fun W=>Rv.may_t a W ha)
 have M4:=Lib.hid (fun W=>Rv.may_f b W hb)
 clear hid hoff ha hb
 go_enter Tryd.func51,Tryd.ntmps51
 go_wp2_with (go_at_call 19;(with_reducible first | refine (M1.out _).mono ?_ | refine (M2.out _).mono ?_ | refine (M3.out _).mono ?_ | refine (M4.out _).mono ?_);rintro e w' ⟨rfl,rfl⟩)
 go_ret
 exact ⟨rfl,(Below.refl _ _).alloc (Nat.le_refl _) _⟩
theorem rpre_data (k:Int) (id off a b note:Int) (fin:Bool) (A:Option Addr) (n c:Nat) (A2:Option Addr) (n2 c2:Nat) (w:World) (hk:¬ k<1) (hk2:¬ 12<k) (hid:wid id≠0) (hoff:wid off≠0) (ha:wid a≠0) (hb:wid b≠0) (hn:120<n) :
  Calls Tryd.prog 51 #[.agg #[.int .i64 k,.int .i64 id,.int .i64 off,.int .i64 a,.int .i64 b,.int .i64 note,.bool fin,.slice A n c,.slice A2 n2 c2]] w fun e w'=>e=.returned (.bool false)∧Below w.heap.size w w':=by
 have M1:=Lib.hid (fun W=>Rv.may_t id W hid)
 have M2:=Lib.hid (fun W=>Rv.may_t off W hoff)
 have M3:=Lib.hid (fun W=>Rv.may_t a W ha)
 have M4:=Lib.hid (fun W=>Rv.may_t b W hb)
 have hni:(120:Int)<(n:Int):=by omega
 clear hid hoff ha hb
 go_enter Tryd.func51,Tryd.ntmps51
 go_wp2_with (go_at_call 19;(with_reducible first | refine (M1.out _).mono ?_ | refine (M2.out _).mono ?_ | refine (M3.out _).mono ?_ | refine (M4.out _).mono ?_);rintro e w' ⟨rfl,rfl⟩)
 go_ret
 exact ⟨rfl,(Below.refl _ _).alloc (Nat.le_refl _) _⟩
theorem rspans_few (n c:Nat) (A:Option Addr) (w:World) (h:n<1∨8<n) :
  Calls Tryd.prog 71 #[.slice A n c] w fun e w'=>e=.returned (.bool false)∧Below w.heap.size w w':=by
 by_cases h1:n<1
 ·obtain rfl:n=0:=by omega
  go_enter Tryd.func71,Tryd.ntmps71
  go_wp2_with fail
  go_ret
  exact ⟨rfl,Below.refl _ _⟩
 ·have h1i:¬ (n:Int)<1:=by omega
  have h8i:(8:Int)<(n:Int):=by omega
  clear h h1
  go_enter Tryd.func71,Tryd.ntmps71
  go_wp2_with fail
  go_ret
  exact ⟨rfl,Below.refl _ _⟩
/-- A run that stands right, behind those ahead of it. -/
def spR (es:List Int) (k:Nat):Prop:=0≤es.getD (2 * k) 0∧es.getD (2 * k) 0≤es.getD (2 * k+1) 0∧es.getD (2 * k+1) 0≤4611686018427387903∧(0<k→es.getD (2 * k+1) 0+2≤es.getD (2 * (k - 1)) 0)
theorem rspans_bad (es:List Int) (n:Nat) (B:Nat) (A:Option Addr) (c:Nat) (w:World) (q:Nat) (hq:q<n) (hl:es.length=n * 2) (hs:∀ k,k<q→spR es k) (hbad:¬ spR es q) (h1:1≤n) (h8:n≤8) (hx:Rd w B A (n * 2) (ints es)) (hB:B≤w.heap.size) (hc:n≤c) :
  Calls Tryd.prog 71 #[.slice A n c] w fun e w'=>e=.returned (.bool false)∧Below w.heap.size w w':=by
 have HS:=Lib.hid hs
 have HX:=Lib.hid hx
 have HBAD:=Lib.hid hbad
 obtain ⟨b,off,rfl,hb,hcell⟩:=hx.2 (by omega)
 have HCE:Hid (∀ W,Below w.heap.size w W→∀ j,j<es.length→W.cell? ⟨b,off+j,none⟩=some (.int .i64 (es.getD j 0))):=fun W hW j hj=>(hW.cell (p:=⟨b,off+j,none⟩) (Nat.lt_of_lt_of_le hb hB)).trans (hcell j _ (ints_get es j hj))
 have h1i:¬ (n:Int)<1:=by omega
 have h8i:¬ (8:Int)<(n:Int):=by omega
 have hci:(n:Int)≤(c:Int):=by omega
 have HL:=Lib.hid hl
 clear hs hx hcell hl hbad
 go_enter Tryd.func71,Tryd.ntmps71
 go_wp2_with fail
 go_loopw [3] (fun i wr=>∃ k:Nat,k≤q∧i=.int .i64 k∧Hid (Below w.heap.size w wr)) (fun i _=>n - (intOf i).toNat)
 case atStart=>exact ⟨0,Nat.zero_le _,rfl,Below.refl _ _⟩
 case round =>
  obtain ⟨k,hk,rfl,HK⟩:=hrel
  have hlti:(k:Int)<(n:Int):=by omega
  obtain ⟨x,hx⟩:∃ x,Hid (es.getD (2 * k) 0=x):=⟨_,rfl⟩
  obtain ⟨y,hy⟩:∃ x,Hid (es.getD (2 * k+1) 0=x):=⟨_,rfl⟩
  have e1:wr.cell? ⟨b,off+k * 2,none⟩=some (.int .i64 x):=by
   rw [show off+k * 2=off+2 * k by omega,HCE.out wr HK.out (2 * k) (by have:=HL.out;omega),hx.out]
  have e2:wr.cell? ⟨b,off+k * 2+1,none⟩=some (.int .i64 y):=by
   rw [show off+k * 2+1=off+(2 * k+1) by omega,HCE.out wr HK.out (2 * k+1) (by have:=HL.out;omega),hy.out]
  by_cases hlt:k<q
  ·obtain ⟨s1,s2,s3,s4⟩:=HS.out k hlt
   rw [hx.out] at s1 s2
   rw [hy.out] at s2 s3 s4
   have M1:Hid (∀ W:World,Calls Tryd.prog 19 #[.int .i64 x] W fun e w'=>e=.returned (.bool true)∧w'=W):=fun W=>(Rv.may_t x W (wid_in s1 (by omega))).mono fun _ _ ⟨h1,h2⟩=>⟨h1,h2.symm⟩
   have M2:Hid (∀ W:World,Calls Tryd.prog 19 #[.int .i64 y] W fun e w'=>e=.returned (.bool true)∧w'=W):=fun W=>(Rv.may_t y W (wid_in (by omega) s3)).mono fun _ _ ⟨h1,h2⟩=>⟨h1,h2.symm⟩
   have hxy:decide (y<x)=false:=decide_eq_false (by omega)
   by_cases hk0:k=0
   ·have hd:decide (0<k)=false:=decide_eq_false (by omega)
    clear hk0 s4
    go_wp2_with fail
    go_quiet ((go_at_call 19;first | exact Calls.quiet_of_same (M1.out _) | exact Calls.quiet_of_same (M2.out _)))
    go_wp2_with fail
    go_roundw
    case rel=>exact ⟨k+1,by omega,by go_num,below_drewN' HK.out _⟩
    case measure=>simp [intOf];omega
   ·obtain ⟨z,hz⟩:∃ x,Hid (es.getD (2 * (k - 1)) 0=x):=⟨_,rfl⟩
    have hd:decide (0<k)=true:=decide_eq_true (by omega)
    have s5:=s4 (by omega)
    rw [hz.out] at s5
    obtain ⟨t1,t2,t3,_⟩:=HS.out (k - 1) (by omega)
    rw [hz.out] at t1 t2
    have hkm:(k:Int) - 1=((k - 1:Nat):Int):=by omega
    have e3:wr.cell? ⟨b,off+(k - 1) * 2,none⟩=some (.int .i64 z):=by
     rw [show off+(k - 1) * 2=off+2 * (k - 1) by omega,HCE.out wr HK.out (2 * (k - 1)) (by have:=HL.out;omega),hz.out]
    have hd2:decide (z - y<2)=false:=decide_eq_false (by omega)
    have hz1:z≤4611686018427387903:=by omega
    clear s4 s5 t2 t3
    go_wp2_with fail
    go_quiet ((go_at_call 19;first | exact Calls.quiet_of_same (M1.out _) | exact Calls.quiet_of_same (M2.out _)))
    go_wp2_with fail
    go_roundw
    case rel=>exact ⟨k+1,by omega,by go_num,below_drewN' HK.out _⟩
    case measure=>simp [intOf];omega
  ·obtain rfl:k=q:=by omega
   have FIN:Hid (∀ m:Nat,Below w.heap.size w (wr.drewN m)):=fun m=>below_drewN' HK.out m
   have hb2:=HBAD.out
   unfold spR at hb2
   rw [hx.out,hy.out] at hb2
   by_cases w1:wid x=0
   ·have M1:Hid (∀ W:World,Calls Tryd.prog 19 #[.int .i64 x] W fun e w'=>e=.returned (.bool false)∧w'=W):=fun W=>(Rv.may_f x W w1).mono fun _ _ ⟨h1,h2⟩=>⟨h1,h2.symm⟩
    clear hb2 w1
    go_wp2_with fail
    go_quiet ((go_at_call 19;exact Calls.quiet_of_same (M1.out _)))
    go_wp2_with fail
    go_ret
    exact ⟨rfl,FIN.out _⟩
   ·have M1:Hid (∀ W:World,Calls Tryd.prog 19 #[.int .i64 x] W fun e w'=>e=.returned (.bool true)∧w'=W):=fun W=>(Rv.may_t x W w1).mono fun _ _ ⟨h1,h2⟩=>⟨h1,h2.symm⟩
    obtain ⟨x0,x1⟩:=wid_ok w1
    by_cases w2:wid y=0
    ·have M2:Hid (∀ W:World,Calls Tryd.prog 19 #[.int .i64 y] W fun e w'=>e=.returned (.bool false)∧w'=W):=fun W=>(Rv.may_f y W w2).mono fun _ _ ⟨h1,h2⟩=>⟨h1,h2.symm⟩
     clear hb2 w1 w2
     go_wp2_with fail
     go_quiet ((go_at_call 19;first | exact Calls.quiet_of_same (M1.out _) | exact Calls.quiet_of_same (M2.out _)))
     go_wp2_with fail
     go_ret
     exact ⟨rfl,FIN.out _⟩
    ·have M2:Hid (∀ W:World,Calls Tryd.prog 19 #[.int .i64 y] W fun e w'=>e=.returned (.bool true)∧w'=W):=fun W=>(Rv.may_t y W w2).mono fun _ _ ⟨h1,h2⟩=>⟨h1,h2.symm⟩
     obtain ⟨y0,y1⟩:=wid_ok w2
     by_cases hxy:y<x
     ·have hd3:decide (y<x)=true:=decide_eq_true hxy
      clear hb2 w1 w2 hxy
      go_wp2_with fail
      go_quiet ((go_at_call 19;first | exact Calls.quiet_of_same (M1.out _) | exact Calls.quiet_of_same (M2.out _)))
      go_wp2_with fail
      go_ret
      exact ⟨rfl,FIN.out _⟩
     ·have hd3:decide (y<x)=false:=decide_eq_false hxy
      by_cases hk0:k=0
      ·exact absurd ⟨x0,by omega,y1,fun h=>absurd hk0 (by omega)⟩ hb2
      ·obtain ⟨z,hz⟩:∃ x,Hid (es.getD (2 * (k - 1)) 0=x):=⟨_,rfl⟩
       rw [hz.out] at hb2
       have hd:decide (0<k)=true:=decide_eq_true (by omega)
       obtain ⟨t1,t2,t3,_⟩:=HS.out (k - 1) (by omega)
       rw [hz.out] at t1 t2
       have hkm:(k:Int) - 1=((k - 1:Nat):Int):=by omega
       have e3:wr.cell? ⟨b,off+(k - 1) * 2,none⟩=some (.int .i64 z):=by
        rw [show off+(k - 1) * 2=off+2 * (k - 1) by omega,HCE.out wr HK.out (2 * (k - 1)) (by have:=HL.out;omega),hz.out]
       have hd2:decide (z - y<2)=true:=decide_eq_true (by
        refine Classical.byContradiction fun hc=>hb2 ⟨x0,by omega,y1,fun _=>by omega⟩)
       have hz1:z≤4611686018427387903:=by omega
       clear t2 t3 hb2 w1 w2 hxy
       go_wp2_with fail
       go_quiet ((go_at_call 19;first | exact Calls.quiet_of_same (M1.out _) | exact Calls.quiet_of_same (M2.out _)))
       go_wp2_with fail
       go_ret
       exact ⟨rfl,FIN.out _⟩
theorem rno_1 (id off a b note:Int) (fin:Bool) (A:Option Addr) (n c:Nat) (A2:Option Addr) (n2 c2:Nat) (w:World) (hid:wid id≠0) (hoff:wid off≠0) (ha:wid a≠0) (hb:wid b≠0) (hn:n≤120) (hbad:((id != 0)=true)∨(id=0∧(off != 0)=true)∨(id=0∧off=0∧(a != 0)=true)∨(id=0∧off=0∧a=0∧(b != 0)=true)∨(id=0∧off=0∧a=0∧b=0∧fin=true)∨(id=0∧off=0∧a=0∧b=0∧fin=false∧0<n)∨(id=0∧off=0∧a=0∧b=0∧fin=false∧n=0∧0<n2)) :
  Calls Tryd.prog 51 #[.agg #[.int .i64 1,.int .i64 id,.int .i64 off,.int .i64 a,.int .i64 b,.int .i64 note,.bool fin,.slice A n c,.slice A2 n2 c2]] w fun e w'=>e=.returned (.bool false)∧Below w.heap.size w w':=by
 have M1:=Lib.hid (fun W=>Rv.may_t id W hid)
 have M2:=Lib.hid (fun W=>Rv.may_t off W hoff)
 have M3:=Lib.hid (fun W=>Rv.may_t a W ha)
 have M4:=Lib.hid (fun W=>Rv.may_t b W hb)
 have NA:=Lib.hid (fun W=>rn_at 1 #[.bool false,.bool false,.bool false,.bool false,.bool false,.bool false,.bool false] W (by decide) (by decide) rfl)
 have hni:¬ (120:Int)<(n:Int):=by omega
 have HBAD:=Lib.hid hbad
 clear hid hoff ha hb hbad
 go_enter Tryd.func51,Tryd.ntmps51
 go_wp2_with (go_at_call 19;(with_reducible first | refine (M1.out _).mono ?_ | refine (M2.out _).mono ?_ | refine (M3.out _).mono ?_ | refine (M4.out _).mono ?_);rintro e w' ⟨rfl,rfl⟩)
 refine (NA.out _).mono ?_
 rintro e w1 ⟨rfl,hb1⟩
 have HB1:Hid (Below w.heap.size w w1):=((Below.refl _ _).alloc (Nat.le_refl _) _).trans (hb1.mono (by simp))
 have hx:w1.heap[w.heap.size]?=some (.cells #[.int .i64 1,.int .i64 id,.int .i64 off,.int .i64 a,.int .i64 b,.int .i64 note,.bool fin,.slice A n c,.slice A2 n2 c2] 44 (0,0)):=(hb1.block _ (by simp)).trans (heap_alloc_new _ _)
 have hx2:(w1.alloc (.cells #[.bool false,.bool false,.bool false,.bool false,.bool false,.bool false,.bool false] 90)).heap[w.heap.size]?=some (.cells #[.int .i64 1,.int .i64 id,.int .i64 off,.int .i64 a,.int .i64 b,.int .i64 note,.bool fin,.slice A n c,.slice A2 n2 c2] 44 (0,0)):=(((Below.refl w1.heap.size w1).alloc (Nat.le_refl _) _).block _ (Array.getElem?_eq_some_iff.1 hx).1).trans hx
 have y0:=cell_of_row _ _ 0 _ _ _ hx2
 have y1:=cell_of_row _ _ 1 _ _ _ hx2
 have y2:=cell_of_row _ _ 2 _ _ _ hx2
 have y3:=cell_of_row _ _ 3 _ _ _ hx2
 have y4:=cell_of_row _ _ 4 _ _ _ hx2
 have y6:=cell_of_row _ _ 6 _ _ _ hx2
 have y7:=cell_of_row _ _ 7 _ _ _ hx2
 have y8:=cell_of_row _ _ 8 _ _ _ hx2
 have HB2:Hid (Below w.heap.size w (w1.alloc (.cells #[.bool false,.bool false,.bool false,.bool false,.bool false,.bool false,.bool false] 90))):=HB1.out.alloc HB1.out.size _
 clear hb1 hx hx2 M1 M2 M3 M4 NA
 go_upto_region 4 with (fail)
 dsimp only [List.append]
 rcases HBAD.out with h | h | h | h | h | h | h
 ·skip
  have h2:¬ id=0:=by simpa using h
  clear HBAD
  go_wp2_with fail
  go_ret
  first
   | exact ⟨rfl,HB2.out⟩
   | exact ⟨ret_bool (by simp;try omega),HB2.out⟩
 ·skip
  obtain ⟨rfl,h⟩:=h
  have h2:¬ off=0:=by simpa using h
  clear HBAD
  go_wp2_with fail
  go_ret
  first
   | exact ⟨rfl,HB2.out⟩
   | exact ⟨ret_bool (by simp;try omega),HB2.out⟩
 ·skip
  obtain ⟨rfl,rfl,h⟩:=h
  have h2:¬ a=0:=by simpa using h
  clear HBAD
  go_wp2_with fail
  go_ret
  first
   | exact ⟨rfl,HB2.out⟩
   | exact ⟨ret_bool (by simp;try omega),HB2.out⟩
 ·skip
  obtain ⟨rfl,rfl,rfl,h⟩:=h
  have h2:¬ b=0:=by simpa using h
  clear HBAD
  go_wp2_with fail
  go_ret
  first
   | exact ⟨rfl,HB2.out⟩
   | exact ⟨ret_bool (by simp;try omega),HB2.out⟩
 ·skip
  obtain ⟨rfl,rfl,rfl,rfl,h⟩:=h
  subst h
  clear HBAD
  go_wp2_with fail
  go_ret
  first
   | exact ⟨rfl,HB2.out⟩
   | exact ⟨ret_bool (by simp;try omega),HB2.out⟩
 ·skip
  obtain ⟨rfl,rfl,rfl,rfl,rfl,h⟩:=h
  have h2:(0:Int)<(n:Int):=by omega
  clear HBAD
  go_wp2_with fail
  go_ret
  first
   | exact ⟨rfl,HB2.out⟩
   | exact ⟨ret_bool (by simp;try omega),HB2.out⟩
 ·skip
  obtain ⟨rfl,rfl,rfl,rfl,rfl,rfl,h⟩:=h
  have h2:(0:Int)<(n2:Int):=by omega
  clear HBAD
  go_wp2_with fail
  go_ret
  first
   | exact ⟨rfl,HB2.out⟩
   | exact ⟨ret_bool (by simp;try omega),HB2.out⟩
theorem rno_2 (id off a b note:Int) (fin:Bool) (A:Option Addr) (n c:Nat) (A2:Option Addr) (n2 c2:Nat) (w:World) (hid:wid id≠0) (hoff:wid off≠0) (ha:wid a≠0) (hb:wid b≠0) (hn:n≤120) (HRS:Hid (id=0∧off=0∧a=0∧b=0∧fin=false∧n=0→∀ W,Below w.heap.size w W→Calls Tryd.prog 71 #[.slice A2 n2 c2] W fun e w'=>e=.returned (.bool false)∧Below W.heap.size W w')) (hbad:((id != 0)=true)∨(id=0∧(off != 0)=true)∨(id=0∧off=0∧(a != 0)=true)∨(id=0∧off=0∧a=0∧(b != 0)=true)∨(id=0∧off=0∧a=0∧b=0∧fin=true)∨(id=0∧off=0∧a=0∧b=0∧fin=false∧0<n)∨(id=0∧off=0∧a=0∧b=0∧fin=false∧n=0)) :
  Calls Tryd.prog 51 #[.agg #[.int .i64 2,.int .i64 id,.int .i64 off,.int .i64 a,.int .i64 b,.int .i64 note,.bool fin,.slice A n c,.slice A2 n2 c2]] w fun e w'=>e=.returned (.bool false)∧Below w.heap.size w w':=by
 have M1:=Lib.hid (fun W=>Rv.may_t id W hid)
 have M2:=Lib.hid (fun W=>Rv.may_t off W hoff)
 have M3:=Lib.hid (fun W=>Rv.may_t a W ha)
 have M4:=Lib.hid (fun W=>Rv.may_t b W hb)
 have NA:=Lib.hid (fun W=>rn_at 2 #[.bool false,.bool false,.bool false,.bool false,.bool false,.bool false,.bool true] W (by decide) (by decide) rfl)
 have hni:¬ (120:Int)<(n:Int):=by omega
 have HBAD:=Lib.hid hbad
 clear hid hoff ha hb hbad
 go_enter Tryd.func51,Tryd.ntmps51
 go_wp2_with (go_at_call 19;(with_reducible first | refine (M1.out _).mono ?_ | refine (M2.out _).mono ?_ | refine (M3.out _).mono ?_ | refine (M4.out _).mono ?_);rintro e w' ⟨rfl,rfl⟩)
 refine (NA.out _).mono ?_
 rintro e w1 ⟨rfl,hb1⟩
 have HB1:Hid (Below w.heap.size w w1):=((Below.refl _ _).alloc (Nat.le_refl _) _).trans (hb1.mono (by simp))
 have hx:w1.heap[w.heap.size]?=some (.cells #[.int .i64 2,.int .i64 id,.int .i64 off,.int .i64 a,.int .i64 b,.int .i64 note,.bool fin,.slice A n c,.slice A2 n2 c2] 44 (0,0)):=(hb1.block _ (by simp)).trans (heap_alloc_new _ _)
 have hx2:(w1.alloc (.cells #[.bool false,.bool false,.bool false,.bool false,.bool false,.bool false,.bool true] 90)).heap[w.heap.size]?=some (.cells #[.int .i64 2,.int .i64 id,.int .i64 off,.int .i64 a,.int .i64 b,.int .i64 note,.bool fin,.slice A n c,.slice A2 n2 c2] 44 (0,0)):=(((Below.refl w1.heap.size w1).alloc (Nat.le_refl _) _).block _ (Array.getElem?_eq_some_iff.1 hx).1).trans hx
 have y0:=cell_of_row _ _ 0 _ _ _ hx2
 have y1:=cell_of_row _ _ 1 _ _ _ hx2
 have y2:=cell_of_row _ _ 2 _ _ _ hx2
 have y3:=cell_of_row _ _ 3 _ _ _ hx2
 have y4:=cell_of_row _ _ 4 _ _ _ hx2
 have y6:=cell_of_row _ _ 6 _ _ _ hx2
 have y7:=cell_of_row _ _ 7 _ _ _ hx2
 have y8:=cell_of_row _ _ 8 _ _ _ hx2
 have HB2:Hid (Below w.heap.size w (w1.alloc (.cells #[.bool false,.bool false,.bool false,.bool false,.bool false,.bool false,.bool true] 90))):=HB1.out.alloc HB1.out.size _
 clear hb1 hx hx2 M1 M2 M3 M4 NA
 go_upto_region 4 with (fail)
 dsimp only [List.append]
 rcases HBAD.out with h | h | h | h | h | h | h
 ·skip
  have h2:¬ id=0:=by simpa using h
  clear HBAD
  go_wp2_with fail
  go_ret
  first
   | exact ⟨rfl,HB2.out⟩
   | exact ⟨ret_bool (by simp;try omega),HB2.out⟩
 ·skip
  obtain ⟨rfl,h⟩:=h
  have h2:¬ off=0:=by simpa using h
  clear HBAD
  go_wp2_with fail
  go_ret
  first
   | exact ⟨rfl,HB2.out⟩
   | exact ⟨ret_bool (by simp;try omega),HB2.out⟩
 ·skip
  obtain ⟨rfl,rfl,h⟩:=h
  have h2:¬ a=0:=by simpa using h
  clear HBAD
  go_wp2_with fail
  go_ret
  first
   | exact ⟨rfl,HB2.out⟩
   | exact ⟨ret_bool (by simp;try omega),HB2.out⟩
 ·skip
  obtain ⟨rfl,rfl,rfl,h⟩:=h
  have h2:¬ b=0:=by simpa using h
  clear HBAD
  go_wp2_with fail
  go_ret
  first
   | exact ⟨rfl,HB2.out⟩
   | exact ⟨ret_bool (by simp;try omega),HB2.out⟩
 ·skip
  obtain ⟨rfl,rfl,rfl,rfl,h⟩:=h
  subst h
  clear HBAD
  go_wp2_with fail
  go_ret
  first
   | exact ⟨rfl,HB2.out⟩
   | exact ⟨ret_bool (by simp;try omega),HB2.out⟩
 ·skip
  obtain ⟨rfl,rfl,rfl,rfl,rfl,h⟩:=h
  have h2:(0:Int)<(n:Int):=by omega
  clear HBAD
  go_wp2_with fail
  go_ret
  first
   | exact ⟨rfl,HB2.out⟩
   | exact ⟨ret_bool (by simp;try omega),HB2.out⟩
 ·skip
  have HR2:=Lib.hid (HRS.out h)
  obtain ⟨rfl,rfl,rfl,rfl,rfl,rfl⟩:=h
  clear HBAD
  go_wp2_with fail
  refine (HR2.out _ HB2.out).mono ?_
  rintro e w2 ⟨rfl,hb2⟩
  have HB3:Hid (Below w.heap.size w w2):=HB2.out.trans (hb2.mono HB2.out.size)
  clear hb2
  go_wp2_with fail
  go_ret
  exact ⟨rfl,HB3.out⟩
theorem rno_3 (id off a b note:Int) (fin:Bool) (A:Option Addr) (n c:Nat) (A2:Option Addr) (n2 c2:Nat) (w:World) (hid:wid id≠0) (hoff:wid off≠0) (ha:wid a≠0) (hb:wid b≠0) (hn:n≤120) (hbad:((a != 0)=true)∨(a=0∧(b != 0)=true)∨(a=0∧b=0∧0<n2)∨(a=0∧b=0∧n2=0∧4611686018427387903 - (n:Int)<off)) :
  Calls Tryd.prog 51 #[.agg #[.int .i64 3,.int .i64 id,.int .i64 off,.int .i64 a,.int .i64 b,.int .i64 note,.bool fin,.slice A n c,.slice A2 n2 c2]] w fun e w'=>e=.returned (.bool false)∧Below w.heap.size w w':=by
 have M1:=Lib.hid (fun W=>Rv.may_t id W hid)
 have M2:=Lib.hid (fun W=>Rv.may_t off W hoff)
 have M3:=Lib.hid (fun W=>Rv.may_t a W ha)
 have M4:=Lib.hid (fun W=>Rv.may_t b W hb)
 obtain ⟨off0,off1⟩:=wid_ok hoff
 have NA:=Lib.hid (fun W=>rn_at 3 #[.bool true,.bool true,.bool false,.bool false,.bool true,.bool true,.bool false] W (by decide) (by decide) rfl)
 have hni:¬ (120:Int)<(n:Int):=by omega
 have HBAD:=Lib.hid hbad
 clear hid hoff ha hb hbad
 go_enter Tryd.func51,Tryd.ntmps51
 go_wp2_with (go_at_call 19;(with_reducible first | refine (M1.out _).mono ?_ | refine (M2.out _).mono ?_ | refine (M3.out _).mono ?_ | refine (M4.out _).mono ?_);rintro e w' ⟨rfl,rfl⟩)
 refine (NA.out _).mono ?_
 rintro e w1 ⟨rfl,hb1⟩
 have HB1:Hid (Below w.heap.size w w1):=((Below.refl _ _).alloc (Nat.le_refl _) _).trans (hb1.mono (by simp))
 have hx:w1.heap[w.heap.size]?=some (.cells #[.int .i64 3,.int .i64 id,.int .i64 off,.int .i64 a,.int .i64 b,.int .i64 note,.bool fin,.slice A n c,.slice A2 n2 c2] 44 (0,0)):=(hb1.block _ (by simp)).trans (heap_alloc_new _ _)
 have hx2:(w1.alloc (.cells #[.bool true,.bool true,.bool false,.bool false,.bool true,.bool true,.bool false] 90)).heap[w.heap.size]?=some (.cells #[.int .i64 3,.int .i64 id,.int .i64 off,.int .i64 a,.int .i64 b,.int .i64 note,.bool fin,.slice A n c,.slice A2 n2 c2] 44 (0,0)):=(((Below.refl w1.heap.size w1).alloc (Nat.le_refl _) _).block _ (Array.getElem?_eq_some_iff.1 hx).1).trans hx
 have y0:=cell_of_row _ _ 0 _ _ _ hx2
 have y1:=cell_of_row _ _ 1 _ _ _ hx2
 have y2:=cell_of_row _ _ 2 _ _ _ hx2
 have y3:=cell_of_row _ _ 3 _ _ _ hx2
 have y4:=cell_of_row _ _ 4 _ _ _ hx2
 have y6:=cell_of_row _ _ 6 _ _ _ hx2
 have y7:=cell_of_row _ _ 7 _ _ _ hx2
 have y8:=cell_of_row _ _ 8 _ _ _ hx2
 have HB2:Hid (Below w.heap.size w (w1.alloc (.cells #[.bool true,.bool true,.bool false,.bool false,.bool true,.bool true,.bool false] 90))):=HB1.out.alloc HB1.out.size _
 clear hb1 hx hx2 M1 M2 M3 M4 NA
 go_upto_region 4 with (fail)
 dsimp only [List.append]
 rcases HBAD.out with h | h | h | h
 ·skip
  have h2:¬ a=0:=by simpa using h
  clear HBAD
  go_wp2_with fail
  go_ret
  first
   | exact ⟨rfl,HB2.out⟩
   | exact ⟨ret_bool (by simp;try omega),HB2.out⟩
 ·skip
  obtain ⟨rfl,h⟩:=h
  have h2:¬ b=0:=by simpa using h
  clear HBAD
  go_wp2_with fail
  go_ret
  first
   | exact ⟨rfl,HB2.out⟩
   | exact ⟨ret_bool (by simp;try omega),HB2.out⟩
 ·skip
  obtain ⟨rfl,rfl,h⟩:=h
  have h2:(0:Int)<(n2:Int):=by omega
  clear HBAD
  go_wp2_with fail
  go_ret
  first
   | exact ⟨rfl,HB2.out⟩
   | exact ⟨ret_bool (by simp;try omega),HB2.out⟩
 ·skip
  obtain ⟨rfl,rfl,rfl,h⟩:=h
  have h2:¬ off≤4611686018427387903 - (n:Int):=by omega
  clear HBAD
  go_wp2_with fail
  go_ret
  first
   | exact ⟨rfl,HB2.out⟩
   | exact ⟨ret_bool (by simp;try omega),HB2.out⟩
end Go.Proofs.YtccljifichaieaaDoor
