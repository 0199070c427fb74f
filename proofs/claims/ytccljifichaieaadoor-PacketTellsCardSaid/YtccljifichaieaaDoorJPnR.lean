/- Joined texts. Conditions: as each theorem lists them. -/
import Derived.Test.YtccljifichaieaaDoorJ9
set_option linter.unusedSimpArgs false
set_option linter.unusedVariables false
set_option maxRecDepth 100000
set_option maxHeartbeats 8000000
namespace Go.Proofs.YtccljifichaieaaDoor.Pn
open Go Go.RowKit
theorem rwithin_any (n a b:Int) (w:World) (hab:a≤b) :
  Calls Tryd.prog 57 #[.int .i64 n,.int .i64 a,.int .i64 b] w fun e w'=>e=.returned (.int .i64 (inR n a b))∧w=w':=by
 obtain ⟨r,hr⟩:∃ r,Hid (inR n a b=r):=⟨_,rfl⟩
 have hrr:(n≤a∧r=a)∨(a<n∧n<b∧r=n)∨(a<n∧b≤n∧r=b):=by
  rw [← hr.out];unfold inR;(repeat' split) <;> omega
 rw [hr.out]
 rcases hrr with ⟨h1,rfl⟩ | ⟨h1,h2,rfl⟩ | ⟨h1,h2,rfl⟩
 ·by_cases h3:n<b
  ·by_cases h4:r<n
   ·omega
   ·go_enter Tryd.func57,Tryd.ntmps57
    go_wp2
    all_goals
     go_ret
     exact ⟨ret_int (by omega),rfl⟩
  ·go_enter Tryd.func57,Tryd.ntmps57
   go_wp2
   all_goals
    go_ret
    exact ⟨ret_int (by omega),rfl⟩
 ·go_enter Tryd.func57,Tryd.ntmps57
  go_wp2
  all_goals
   go_ret
   exact ⟨ret_int (by omega),rfl⟩
 ·go_enter Tryd.func57,Tryd.ntmps57
  go_wp2
  all_goals
   go_ret
   exact ⟨ret_int (by omega),rfl⟩
theorem rwithin_at (n a b r:Int) (h:inR n a b=r) (w:World) (hab:a≤b) :
  Calls Tryd.prog 57 #[.int .i64 n,.int .i64 a,.int .i64 b] w fun e w'=>e=.returned (.int .i64 r)∧w=w':=by
 have:=rwithin_any n a b w hab
 rwa [h] at this
theorem radix_any (k:Int) (w:World) :
  Calls Tryd.prog 56 #[.int .i64 k] w fun e w'=>e=.returned (.int .i64 (tn k))∧w=w':=by
 rcases tn_cases k with ⟨h,g⟩ | ⟨h,g⟩ | ⟨h,g⟩ | ⟨h,g⟩
 all_goals
  have G:=Lib.hid g
  rw [h]
  clear g h
  go_enter Tryd.func56,Tryd.ntmps56
  go_wp2_with (go_at_call 57;refine (rwithin_at _ _ _ _ G.out _ (by decide)).mono ?_;rintro e w' ⟨rfl,rfl⟩)
  go_ret
  exact ⟨rfl,rfl⟩
theorem radix_at (k r:Int) (h:tn k=r) (w:World) :
  Calls Tryd.prog 56 #[.int .i64 k] w fun e w'=>e=.returned (.int .i64 r)∧w=w':=by
 have:=radix_any k w
 rwa [h] at this
theorem modulo_eq (n m:Int) (hm:0<m) (hm2:m≤4611686018427387904):wrap64 (n.tmod m+m)=n.tmod m+m∧(n.tmod m+m).tmod m=n % m:=by
 have h0:=Int.emod_nonneg n (show m≠0 by omega)
 have h1:=Int.emod_lt_of_pos n hm
 have e:=Int.tmod_eq_emod (a:=n) (b:=m)
 have hc:n.tmod m=n % m∨n.tmod m=n % m - m:=by
  split at e
  ·left;omega
  ·right;have:(m.natAbs:Int)=m:=by omega
   omega
 refine ⟨?_,?_⟩
 ·exact IntWalk.wrap64_in _ (by omega)
 ·have hp:0≤n.tmod m+m:=by omega
  rw [Int.tmod_eq_emod_of_nonneg hp,Int.add_emod_right]
  rcases hc with h | h
  ·rw [h,Int.emod_emod_of_dvd _ (Int.dvd_refl _)]
  ·rw [h]
   have:n % m - m=n % m+m * (-1):=by omega
   rw [this,Int.add_mul_emod_self_left,Int.emod_emod_of_dvd _ (Int.dvd_refl _)]
theorem modulo_any (n m:Int) (w:World) (hm:0<m) (hm2:m≤4611686018427387904) :
  Calls Tryd.prog 58 #[.int .i64 n,.int .i64 m] w fun e w'=>e=.returned (.int .i64 (n % m))∧w=w':=by
 have hmz:(m == 0)=false:=by simp;omega
 obtain ⟨h1,h2⟩:=modulo_eq n m hm hm2
 have H2:=Lib.hid h2
 clear h2
 go_enter Tryd.func58,Tryd.ntmps58
 go_wp2
 go_ret
 exact ⟨ret_int H2.out,rfl⟩
theorem modulo_at (n m r:Int) (h:n % m=r) (w:World) (hm:0<m) (hm2:m≤4611686018427387904) :
  Calls Tryd.prog 58 #[.int .i64 n,.int .i64 m] w fun e w'=>e=.returned (.int .i64 r)∧w=w':=by
 have:=modulo_any n m w hm hm2
 rwa [h] at this
theorem rbytes_any (n a:Int) (w:World) (h1:-9223372036854775808≤n - a) (h2:n - a≤9223372036854775807) :
  Calls Tryd.prog 27 #[.int .i64 n,.int .i64 a] w fun e w'=>e=.returned (.int .i64 (bytesF n a))∧w=w':=by
 rcases bytesF_cases n a with ⟨e,b⟩ | ⟨e,b,b2⟩ | ⟨e,b,b2⟩ | ⟨e,b⟩
 all_goals
  rw [e]
  clear e
  go_enter Tryd.func27,Tryd.ntmps27
  go_wp2
 ·go_loop [6] (fun i=>∃ k:Int,1≤k∧k≤1∧i=.int .i64 k) (fun i=>(1 - intOf i).toNat)
  case atStart=>exact ⟨1,by omega,by omega,rfl⟩
  case round =>
   obtain ⟨k,hk1,hk2,rfl⟩:=hrel
   obtain rfl:k=1:=by omega
   go_wp2
   go_ret
   exact ⟨rfl,rfl⟩
 ·go_loop [6] (fun i=>∃ k:Int,1≤k∧k≤2∧i=.int .i64 k) (fun i=>(2 - intOf i).toNat)
  case atStart=>exact ⟨1,by omega,by omega,rfl⟩
  case round =>
   obtain ⟨k,hk1,hk2,rfl⟩:=hrel
   obtain rfl | rfl:k=1∨k=2:=by omega
   ·go_wp2
    go_round
    case rel=>exact ⟨2,by omega,by omega,rfl⟩
    case measure=>simp [intOf]
   ·go_wp2
    go_ret
    exact ⟨rfl,rfl⟩
 ·go_loop [6] (fun i=>∃ k:Int,1≤k∧k≤3∧i=.int .i64 k) (fun i=>(3 - intOf i).toNat)
  case atStart=>exact ⟨1,by omega,by omega,rfl⟩
  case round =>
   obtain ⟨k,hk1,hk2,rfl⟩:=hrel
   obtain rfl | rfl | rfl:k=1∨k=2∨k=3:=by omega
   ·go_wp2
    go_round
    case rel=>exact ⟨2,by omega,by omega,rfl⟩
    case measure=>simp [intOf]
   ·go_wp2
    go_round
    case rel=>exact ⟨3,by omega,by omega,rfl⟩
    case measure=>simp [intOf]
   ·go_wp2
    go_ret
    exact ⟨rfl,rfl⟩
 ·go_loop [6] (fun i=>∃ k:Int,1≤k∧k≤4∧i=.int .i64 k) (fun i=>(4 - intOf i).toNat)
  case atStart=>exact ⟨1,by omega,by omega,rfl⟩
  case round =>
   obtain ⟨k,hk1,hk2,rfl⟩:=hrel
   obtain rfl | rfl | rfl | rfl:k=1∨k=2∨k=3∨k=4:=by omega
   ·go_wp2
    go_round
    case rel=>exact ⟨2,by omega,by omega,rfl⟩
    case measure=>simp [intOf]
   ·go_wp2
    go_round
    case rel=>exact ⟨3,by omega,by omega,rfl⟩
    case measure=>simp [intOf]
   ·go_wp2
    go_round
    case rel=>exact ⟨4,by omega,by omega,rfl⟩
    case measure=>simp [intOf]
   ·go_wp2
    go_ret
    exact ⟨rfl,rfl⟩
theorem rbytes_at (n a r:Int) (h:bytesF n a=r) (w:World) (h1:-9223372036854775808≤n - a) (h2:n - a≤9223372036854775807) :
  Calls Tryd.prog 27 #[.int .i64 n,.int .i64 a] w fun e w'=>e=.returned (.int .i64 r)∧w=w':=by
 have:=rbytes_any n a w h1 h2
 rwa [h] at this
theorem may_yes (n:Int) (w:World) (h0:0≤n) (h1:n≤4611686018427387903):Calls Tryd.prog 19 #[.int .i64 n] w fun e w'=>e=.returned (.bool true)∧w=w':=by
 have h:=may_any n w
 rwa [show mayB n=true by unfold mayB;simp [h0,h1]] at h
theorem may_lo (n:Int) (w:World) (h0:n<0):Calls Tryd.prog 19 #[.int .i64 n] w fun e w'=>e=.returned (.bool false)∧w=w':=by
 have h:=may_any n w
 rwa [show mayB n=false by unfold mayB;simp;omega] at h
theorem may_hi (n:Int) (w:World) (h0:4611686018427387903<n):Calls Tryd.prog 19 #[.int .i64 n] w fun e w'=>e=.returned (.bool false)∧w=w':=by
 have h:=may_any n w
 rwa [show mayB n=false by unfold mayB;simp;omega] at h
/-- What is the best so far, ahead of round i. -/
def BestR (r a m i b:Int):Prop:=(i=-1∧b=-1)∨(i=0∧((b=-1∧a - m<0)∨(b=a - m∧0≤a - m)))∨(i=1∧((b=a∧0≤a)∨(b=-1∧a<0)))∨(i=2∧b=r)∨(i=3∧b=r)
theorem rback_any (cut k next:Int) (w:World) :
  Calls Tryd.prog 37 #[.int .i64 cut,.int .i64 k,.int .i64 next] w fun e w'=>e=.returned (.int .i64 (backF cut k next))∧w=w':=by
 obtain ⟨x,hx⟩:∃ x,mayR next=x:=⟨_,rfl⟩
 have hx0:=mayR_in next
 rw [hx] at hx0
 obtain ⟨x0,x1⟩:=hx0
 have HX:Hid (inR next 0 4611686018427387903=x):=hx
 obtain ⟨t,ht⟩:∃ t,tn k=t:=⟨_,rfl⟩
 have hto:=tn_or k
 rw [ht] at hto
 obtain ⟨c,hc⟩:∃ c,(x - cut) % t=c:=⟨_,rfl⟩
 obtain ⟨u,hu⟩:∃ u,Hid (cut % t=u):=⟨_,rfl⟩
 have t0:256≤t:=by omega
 have t1:t≤4294967296:=by omega
 have c0:0≤c:=by rw [← hc];exact Int.emod_nonneg _ (by omega)
 have c1:c<t:=by rw [← hc];exact Int.emod_lt_of_pos _ (by omega)
 have u0:0≤u:=by rw [← hu.out];exact Int.emod_nonneg _ (by omega)
 have u1:u<t:=by rw [← hu.out];exact Int.emod_lt_of_pos _ (by omega)
 have HC:Hid ((x - u) % t=c):=hid_of (by rw [← hu.out,← hc,Int.sub_emod,Int.emod_emod_of_dvd cut (Int.dvd_refl _),← Int.sub_emod])
 obtain ⟨a,ha⟩:∃ a,Hid (x - c=a):=⟨_,rfl⟩
 have a0:a≤x:=by have:=ha.out;omega
 have a1:x<a+t:=by have:=ha.out;omega
 obtain ⟨r,hr⟩:∃ r,Hid (backF cut k next=r):=⟨_,rfl⟩
 have HG:Hid (r=if a<0 then a+t else if 4611686018427387903<a+t then a else if (a+t) - x≤x - a then a+t else a):=hid_of (by
  rw [← hr.out,← ha.out]
  unfold backF backG
  rw [hx,ht,hc])
 have HT:=Lib.hid ht
 have HA:Hid (a=x - c):=hid_of ha.out.symm
 have hac:a=x - c:=HA.out
 rw [hr.out]
 clear hc ht hx hto ha hr
 subst hac
 go_enter Tryd.func37,Tryd.ntmps37
 go_wp2_with (first
  | (go_at_call 56;refine (radix_at _ _ HT.out _).mono ?_;rintro e w' ⟨rfl,rfl⟩)
  | (go_at_call 57;refine (rwithin_at _ _ _ _ HX.out _ (by decide)).mono ?_;rintro e w' ⟨rfl,rfl⟩)
  | (go_at_call 58;(with_reducible first | refine (modulo_at _ _ _ hu.out _ (by omega) (by omega)).mono ?_ | refine (modulo_at _ _ _ HC.out _ (by omega) (by omega)).mono ?_);rintro e w' ⟨rfl,rfl⟩))
 go_loop [8,10] (fun b i=>∃ bi ii:Int,i=.int .i64 ii∧b=.int .i64 bi∧BestR r (x - c) t ii bi) (fun _ i=>(3 - intOf i).toNat)
 case atStart=>exact ⟨-1,-1,rfl,rfl,.inl ⟨rfl,rfl⟩⟩
 case round =>
  obtain ⟨b,i,rfl,rfl,hR⟩:=hrel
  rcases hR with ⟨rfl,rfl⟩ | ⟨rfl,h⟩ | ⟨rfl,h⟩ | ⟨rfl,hb⟩ | ⟨rfl,rfl⟩
  ·by_cases h:0≤x - c - t
   all_goals
    go_wp2_with (go_at_call 19;(first | refine (may_yes _ _ (by omega) (by omega)).mono ?_ | refine (may_lo _ _ (by omega)).mono ?_ | refine (may_hi _ _ (by omega)).mono ?_);rintro e w' ⟨rfl,rfl⟩)
    all_goals exact ⟨⟨_,_,rfl,rfl,by unfold BestR;omega⟩,by simp [intOf]⟩
  ·by_cases h2:0≤x - c
   ·rcases h with ⟨rfl,h⟩ | ⟨rfl,h⟩
    all_goals
     go_wp2_with (go_at_call 19;(first | refine (may_yes _ _ (by omega) (by omega)).mono ?_ | refine (may_lo _ _ (by omega)).mono ?_ | refine (may_hi _ _ (by omega)).mono ?_);rintro e w' ⟨rfl,rfl⟩)
     all_goals exact ⟨⟨_,_,rfl,rfl,by unfold BestR;omega⟩,by simp [intOf]⟩
   ·rcases h with ⟨rfl,h⟩ | ⟨rfl,h⟩
    ·go_wp2_with (go_at_call 19;(first | refine (may_yes _ _ (by omega) (by omega)).mono ?_ | refine (may_lo _ _ (by omega)).mono ?_ | refine (may_hi _ _ (by omega)).mono ?_);rintro e w' ⟨rfl,rfl⟩)
     all_goals exact ⟨⟨_,_,rfl,rfl,by unfold BestR;omega⟩,by simp [intOf]⟩
    ·exact absurd h (by omega)
  ·have HR:(x - c<0∧r=x - c+t)∨(0≤x - c∧4611686018427387903<x - c+t∧r=x - c)∨(0≤x - c∧x - c+t≤4611686018427387903∧x - c+t - x<c∧r=x - c+t)∨(0≤x - c∧x - c+t≤4611686018427387903∧x - c+t - x≤c∧c≤x - c+t - x∧r=x - c+t)∨(0≤x - c∧x - c+t≤4611686018427387903∧c<x - c+t - x∧r=x - c):=by
    have:=HG.out
    (repeat' split at this) <;> omega
   clear HG
   rcases h with ⟨rfl,h⟩ | ⟨rfl,h⟩
   ·rcases HR with HR | ⟨g1,g2,rfl⟩ | ⟨g1,g2,g3,rfl⟩ | ⟨g1,g2,g3,g3',rfl⟩ | ⟨g1,g2,g3,rfl⟩
    ·omega
    ·go_wp2_with (go_at_call 19;(first | refine (may_yes _ _ (by omega) (by omega)).mono ?_ | refine (may_lo _ _ (by omega)).mono ?_ | refine (may_hi _ _ (by omega)).mono ?_);rintro e w' ⟨rfl,rfl⟩)
     all_goals exact ⟨⟨_,_,rfl,rfl,by unfold BestR;omega⟩,by simp [intOf]⟩
    ·go_wp2_with (go_at_call 19;(first | refine (may_yes _ _ (by omega) (by omega)).mono ?_ | refine (may_lo _ _ (by omega)).mono ?_ | refine (may_hi _ _ (by omega)).mono ?_);rintro e w' ⟨rfl,rfl⟩)
     all_goals exact ⟨⟨_,_,rfl,rfl,by unfold BestR;omega⟩,by simp [intOf]⟩
    ·have g4:(x - c+t - x == x - (x - c))=true:=beq_iff_eq.2 (by omega)
     go_wp2_with (go_at_call 19;(first | refine (may_yes _ _ (by omega) (by omega)).mono ?_ | refine (may_lo _ _ (by omega)).mono ?_ | refine (may_hi _ _ (by omega)).mono ?_);rintro e w' ⟨rfl,rfl⟩)
     all_goals exact ⟨⟨_,_,rfl,rfl,by unfold BestR;omega⟩,by simp [intOf]⟩
    ·have g4:(x - c+t - x == x - (x - c))=false:=beq_eq_false_iff_ne.2 (by omega)
     go_wp2_with (go_at_call 19;(first | refine (may_yes _ _ (by omega) (by omega)).mono ?_ | refine (may_lo _ _ (by omega)).mono ?_ | refine (may_hi _ _ (by omega)).mono ?_);rintro e w' ⟨rfl,rfl⟩)
     all_goals exact ⟨⟨_,_,rfl,rfl,by unfold BestR;omega⟩,by simp [intOf]⟩
   ·obtain ⟨g1,rfl⟩:x - c<0∧r=x - c+t:=by omega
    clear HR
    go_wp2_with (go_at_call 19;(first | refine (may_yes _ _ (by omega) (by omega)).mono ?_ | refine (may_lo _ _ (by omega)).mono ?_ | refine (may_hi _ _ (by omega)).mono ?_);rintro e w' ⟨rfl,rfl⟩)
    all_goals exact ⟨⟨_,_,rfl,rfl,by unfold BestR;omega⟩,by simp [intOf]⟩
  ·obtain rfl:r=b:=hb.symm
   have HR:(x - c<0∧r=x - c+t)∨(0≤x - c∧4611686018427387903<x - c+t∧r=x - c)∨(0≤x - c∧x - c+t≤4611686018427387903∧x - c+t - x<c∧r=x - c+t)∨(0≤x - c∧x - c+t≤4611686018427387903∧x - c+t - x≤c∧c≤x - c+t - x∧r=x - c+t)∨(0≤x - c∧x - c+t≤4611686018427387903∧c<x - c+t - x∧r=x - c):=by
    have:=HG.out
    (repeat' split at this) <;> omega
   clear HG
   rcases HR with ⟨g1,rfl⟩ | ⟨g1,g2,rfl⟩ | ⟨g1,g2,g3,rfl⟩ | ⟨g1,g2,g3,g3',rfl⟩ | ⟨g1,g2,g3,rfl⟩
   ·by_cases h2:x - c+2 * t≤4611686018427387903
    ·go_wp2_with (go_at_call 19;(first | refine (may_yes _ _ (by omega) (by omega)).mono ?_ | refine (may_lo _ _ (by omega)).mono ?_ | refine (may_hi _ _ (by omega)).mono ?_);rintro e w' ⟨rfl,rfl⟩)
     all_goals exact ⟨⟨_,_,rfl,rfl,by unfold BestR;omega⟩,by simp [intOf]⟩
    ·go_wp2_with (go_at_call 19;(first | refine (may_yes _ _ (by omega) (by omega)).mono ?_ | refine (may_lo _ _ (by omega)).mono ?_ | refine (may_hi _ _ (by omega)).mono ?_);rintro e w' ⟨rfl,rfl⟩)
     all_goals exact ⟨⟨_,_,rfl,rfl,by unfold BestR;omega⟩,by simp [intOf]⟩
   ·by_cases h2:x - c+2 * t≤4611686018427387903
    ·go_wp2_with (go_at_call 19;(first | refine (may_yes _ _ (by omega) (by omega)).mono ?_ | refine (may_lo _ _ (by omega)).mono ?_ | refine (may_hi _ _ (by omega)).mono ?_);rintro e w' ⟨rfl,rfl⟩)
     all_goals exact ⟨⟨_,_,rfl,rfl,by unfold BestR;omega⟩,by simp [intOf]⟩
    ·go_wp2_with (go_at_call 19;(first | refine (may_yes _ _ (by omega) (by omega)).mono ?_ | refine (may_lo _ _ (by omega)).mono ?_ | refine (may_hi _ _ (by omega)).mono ?_);rintro e w' ⟨rfl,rfl⟩)
     all_goals exact ⟨⟨_,_,rfl,rfl,by unfold BestR;omega⟩,by simp [intOf]⟩
   ·by_cases h2:x - c+2 * t≤4611686018427387903
    ·go_wp2_with (go_at_call 19;(first | refine (may_yes _ _ (by omega) (by omega)).mono ?_ | refine (may_lo _ _ (by omega)).mono ?_ | refine (may_hi _ _ (by omega)).mono ?_);rintro e w' ⟨rfl,rfl⟩)
     all_goals exact ⟨⟨_,_,rfl,rfl,by unfold BestR;omega⟩,by simp [intOf]⟩
    ·go_wp2_with (go_at_call 19;(first | refine (may_yes _ _ (by omega) (by omega)).mono ?_ | refine (may_lo _ _ (by omega)).mono ?_ | refine (may_hi _ _ (by omega)).mono ?_);rintro e w' ⟨rfl,rfl⟩)
     all_goals exact ⟨⟨_,_,rfl,rfl,by unfold BestR;omega⟩,by simp [intOf]⟩
   ·by_cases h2:x - c+2 * t≤4611686018427387903
    ·go_wp2_with (go_at_call 19;(first | refine (may_yes _ _ (by omega) (by omega)).mono ?_ | refine (may_lo _ _ (by omega)).mono ?_ | refine (may_hi _ _ (by omega)).mono ?_);rintro e w' ⟨rfl,rfl⟩)
     all_goals exact ⟨⟨_,_,rfl,rfl,by unfold BestR;omega⟩,by simp [intOf]⟩
    ·go_wp2_with (go_at_call 19;(first | refine (may_yes _ _ (by omega) (by omega)).mono ?_ | refine (may_lo _ _ (by omega)).mono ?_ | refine (may_hi _ _ (by omega)).mono ?_);rintro e w' ⟨rfl,rfl⟩)
     all_goals exact ⟨⟨_,_,rfl,rfl,by unfold BestR;omega⟩,by simp [intOf]⟩
   ·by_cases h2:x - c+2 * t≤4611686018427387903
    ·go_wp2_with (go_at_call 19;(first | refine (may_yes _ _ (by omega) (by omega)).mono ?_ | refine (may_lo _ _ (by omega)).mono ?_ | refine (may_hi _ _ (by omega)).mono ?_);rintro e w' ⟨rfl,rfl⟩)
     all_goals exact ⟨⟨_,_,rfl,rfl,by unfold BestR;omega⟩,by simp [intOf]⟩
    ·go_wp2_with (go_at_call 19;(first | refine (may_yes _ _ (by omega) (by omega)).mono ?_ | refine (may_lo _ _ (by omega)).mono ?_ | refine (may_hi _ _ (by omega)).mono ?_);rintro e w' ⟨rfl,rfl⟩)
     all_goals exact ⟨⟨_,_,rfl,rfl,by unfold BestR;omega⟩,by simp [intOf]⟩
  ·go_wp2
   go_ret
   exact ⟨rfl,rfl⟩
end Go.Proofs.YtccljifichaieaaDoor.Pn
