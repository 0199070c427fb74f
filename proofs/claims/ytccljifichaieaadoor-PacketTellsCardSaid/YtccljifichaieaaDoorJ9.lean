/- Joined texts. Conditions: as each theorem lists them. -/
import Derived.Test.YtccljifichaieaaDoorJH1
import Derived.WalkKit
import Derived.WalkLawsBesides
import Derived.Lib.Hide
import Derived.IntWalk
import Derived.Laws.Bits64
import Derived.Below
set_option linter.unusedSimpArgs false
set_option linter.unusedVariables false
set_option maxRecDepth 100000
set_option maxHeartbeats 8000000
namespace Go.Proofs.YtccljifichaieaaDoor.Pn
open Go Go.RowKit
theorem and_mask (n:Int) (i:Nat) (hi:i≤32):bits .and .i64 n (2 ^ i - 1)=n % 2 ^ i:=by
 have hpos:0<2 ^ i:=Nat.two_pow_pos i
 have h32:2 ^ i≤2 ^ 32:=Nat.pow_le_pow_right (by decide) hi
 have hc:((2:Int) ^ i - 1)=((2 ^ i - 1:Nat):Int):=by
  rw [Int.natCast_sub hpos];simp
 show IntKind.i64.wrap ((BitVec.ofInt 64 n &&& BitVec.ofInt 64 ((2:Int) ^ i - 1)).toNat:Int)=_
 have hm:(BitVec.ofInt 64 ((2:Int) ^ i - 1)).toNat=2 ^ i - 1:=by
  rw [hc,BitVec.ofInt_natCast,BitVec.toNat_ofNat];exact Nat.mod_eq_of_lt (by omega)
 rw [BitVec.toNat_and,hm,Nat.and_two_pow_sub_one_eq_mod,BitVec.toNat_ofInt]
 have hd:(2:Int) ^ i∣2 ^ 64:=⟨2 ^ (64 - i),by rw [← Int.pow_add];congr 1;omega⟩
 have e:(((n % (2 ^ 64:Nat)).toNat % 2 ^ i:Nat):Int)=n % 2 ^ i:=by
  rw [Int.natCast_emod,Int.toNat_of_nonneg (Int.emod_nonneg _ (by decide))]
  have:((2 ^ i:Nat):Int)=(2:Int) ^ i:=by simp
  rw [this]
  have h64:((2 ^ 64:Nat):Int)=(2:Int) ^ 64:=by decide
  rw [h64]
  exact Int.emod_emod_of_dvd n hd
 rw [e]
 have h3:((2 ^ i:Nat):Int)=(2:Int) ^ i:=by simp
 have h1:=Int.emod_nonneg n (show (2:Int) ^ i≠0 by omega)
 have h2:=Int.emod_lt_of_pos n (show (0:Int)<(2:Int) ^ i by omega)
 exact IntWalk.i64_in _ (by omega)
/-- n brought within a to b. -/
def inR (n a b:Int):Int:=if n<a then (if b<a then b else a) else if b<n then b else n
/-- How many numbers k bytes tell apart. -/
def tn (k:Int):Int:=if k≤1 then 256 else if k≤2 then 65536 else if k≤3 then 16777216 else 4294967296
def bytesF (n a:Int):Int:=if n - a≤128 then 1 else if n - a≤32768 then 2 else if n - a≤8388608 then 3 else 4
def cutF (n k:Int):Int:=n % tn k
def mayR (x:Int):Int:=inR x 0 4611686018427387903
def backG (cut m x:Int):Int :=
 let b:=x - (x - cut) % m
 if b<0 then b+m else if 4611686018427387903<b+m then b else if (b+m) - x≤x - b then b+m else b
def backF (cut k next:Int):Int:=backG cut (tn k) (mayR next)
theorem tn_cases (k:Int):(tn k=256∧inR k 1 4=1)∨(tn k=65536∧inR k 1 4=2)∨(tn k=16777216∧inR k 1 4=3)∨(tn k=4294967296∧inR k 1 4=4):=by
 unfold tn inR;(repeat' split) <;> omega
theorem within_any (n a b:Int) (w:World) :
  Calls Tryd.prog 68 #[.int .i64 n,.int .i64 a,.int .i64 b] w fun e w'=>e=.returned (.int .i64 (inR n a b))∧w=w':=by
 by_cases h1:n<a
 ·by_cases h2:b<a
  ·have h3:inR n a b=b:=by unfold inR;rw [if_pos h1,if_pos h2]
   rw [h3]
   clear h3
   go_enter Tryd.func68,Tryd.ntmps68
   go_wp2
   go_ret
   exact ⟨rfl,rfl⟩
  ·have h3:inR n a b=a:=by unfold inR;rw [if_pos h1,if_neg h2]
   rw [h3]
   clear h3
   go_enter Tryd.func68,Tryd.ntmps68
   go_wp2
   go_ret
   exact ⟨rfl,rfl⟩
 ·by_cases h2:b<n
  ·have h3:inR n a b=b:=by unfold inR;rw [if_neg h1,if_pos h2]
   rw [h3]
   clear h3
   go_enter Tryd.func68,Tryd.ntmps68
   go_wp2
   go_ret
   exact ⟨rfl,rfl⟩
  ·have h3:inR n a b=n:=by unfold inR;rw [if_neg h1,if_neg h2]
   rw [h3]
   clear h3
   go_enter Tryd.func68,Tryd.ntmps68
   go_wp2
   go_ret
   exact ⟨rfl,rfl⟩
theorem within_at (n a b r:Int) (h:inR n a b=r) (w:World) :
  Calls Tryd.prog 68 #[.int .i64 n,.int .i64 a,.int .i64 b] w fun e w'=>e=.returned (.int .i64 r)∧w=w':=by
 have:=within_any n a b w
 rwa [h] at this
theorem turn_any (k:Int) (w:World) :
  Calls Tryd.prog 46 #[.int .i64 k] w fun e w'=>e=.returned (.int .i64 (tn k))∧w=w':=by
 rcases tn_cases k with ⟨h,g⟩ | ⟨h,g⟩ | ⟨h,g⟩ | ⟨h,g⟩
 all_goals
  have G:=Lib.hid g
  rw [h]
  clear g h
  go_enter Tryd.func46,Tryd.ntmps46
  go_wp2_with (go_at_call 68;refine (within_at _ _ _ _ G.out _).mono ?_;rintro e w' ⟨rfl,rfl⟩)
  go_ret
  exact ⟨rfl,rfl⟩
theorem turn_at (k r:Int) (h:tn k=r) (w:World) :
  Calls Tryd.prog 46 #[.int .i64 k] w fun e w'=>e=.returned (.int .i64 r)∧w=w':=by
 have:=turn_any k w
 rwa [h] at this
theorem cut_any (n k:Int) (w:World) :
  Calls Tryd.prog 45 #[.int .i64 n,.int .i64 k] w fun e w'=>e=.returned (.int .i64 (cutF n k))∧w=w':=by
 have m1:bits .and .i64 n 255=n % 256:=and_mask n 8 (by decide)
 have m2:bits .and .i64 n 65535=n % 65536:=and_mask n 16 (by decide)
 have m3:bits .and .i64 n 16777215=n % 16777216:=and_mask n 24 (by decide)
 have m4:bits .and .i64 n 4294967295=n % 4294967296:=and_mask n 32 (by decide)
 have M1:=Lib.hid m1
 have M2:=Lib.hid m2
 have M3:=Lib.hid m3
 have M4:=Lib.hid m4
 clear m1 m2 m3 m4
 unfold cutF
 rcases tn_cases k with ⟨h,_⟩ | ⟨h,_⟩ | ⟨h,_⟩ | ⟨h,_⟩
 all_goals
  have H:=Lib.hid h
  rw [h]
  clear h
  go_enter Tryd.func45,Tryd.ntmps45
  go_wp2_with (go_at_call 46;refine (turn_at _ _ H.out _).mono ?_;rintro e w' ⟨rfl,rfl⟩)
  go_ret
  exact ⟨ret_int (by first | exact M1.out | exact M2.out | exact M3.out | exact M4.out),rfl⟩
theorem cut_at (n k r:Int) (h:cutF n k=r) (w:World) :
  Calls Tryd.prog 45 #[.int .i64 n,.int .i64 k] w fun e w'=>e=.returned (.int .i64 r)∧w=w':=by
 have:=cut_any n k w
 rwa [h] at this
theorem far_eq (n a:Int) (h1:-9223372036854775808≤a) (h2:n≤9223372036854775807) (h:a<n):IntKind.u64.wrap (IntKind.u64.wrap n - IntKind.u64.wrap a)=n - a:=by
 simp only [IntKind.wrap_u64];omega
theorem bytesF_cases (n a:Int):(bytesF n a=1∧n - a≤128)∨(bytesF n a=2∧128<n - a∧n - a≤32768)∨(bytesF n a=3∧32768<n - a∧n - a≤8388608)∨(bytesF n a=4∧8388608<n - a):=by
 unfold bytesF;(repeat' split) <;> omega
theorem bytes_any (n a:Int) (w:World) (h1:-9223372036854775808≤a) (h2:n≤9223372036854775807) :
  Calls Tryd.prog 23 #[.int .i64 n,.int .i64 a] w fun e w'=>e=.returned (.int .i64 (bytesF n a))∧w=w':=by
 by_cases h:n≤a
 ·have e:bytesF n a=1:=by unfold bytesF;rw [if_pos (by omega)]
  rw [e]
  clear e
  go_enter Tryd.func23,Tryd.ntmps23
  go_wp2
  go_ret
  exact ⟨rfl,rfl⟩
 ·have hf:=far_eq n a h1 h2 (by omega)
  rcases bytesF_cases n a with ⟨e,b⟩ | ⟨e,b,b2⟩ | ⟨e,b,b2⟩ | ⟨e,b⟩
  ·rw [e]
   clear e
   go_enter Tryd.func23,Tryd.ntmps23
   go_wp2
   go_loop [6] (fun i=>∃ k:Int,1≤k∧k≤1∧i=.int .i64 k) (fun i=>(1 - intOf i).toNat)
   case atStart=>exact ⟨1,by omega,by omega,rfl⟩
   case round =>
    obtain ⟨k,hk1,hk2,rfl⟩:=hrel
    obtain rfl:k=1:=by omega
    go_wp2_with (go_at_call 46;refine (turn_at 1 256 (by decide) _).mono ?_;rintro e w' ⟨rfl,rfl⟩)
    go_ret
    exact ⟨rfl,rfl⟩
  ·rw [e]
   clear e
   go_enter Tryd.func23,Tryd.ntmps23
   go_wp2
   go_loop [6] (fun i=>∃ k:Int,1≤k∧k≤2∧i=.int .i64 k) (fun i=>(2 - intOf i).toNat)
   case atStart=>exact ⟨1,by omega,by omega,rfl⟩
   case round =>
    obtain ⟨k,hk1,hk2,rfl⟩:=hrel
    obtain rfl | rfl:k=1∨k=2:=by omega
    ·go_wp2_with (go_at_call 46;refine (turn_at 1 256 (by decide) _).mono ?_;rintro e w' ⟨rfl,rfl⟩)
     go_round
     case rel=>exact ⟨2,by omega,by omega,rfl⟩
     case measure=>simp [intOf]
    ·go_wp2_with (go_at_call 46;refine (turn_at 2 65536 (by decide) _).mono ?_;rintro e w' ⟨rfl,rfl⟩)
     go_ret
     exact ⟨rfl,rfl⟩
  ·rw [e]
   clear e
   go_enter Tryd.func23,Tryd.ntmps23
   go_wp2
   go_loop [6] (fun i=>∃ k:Int,1≤k∧k≤3∧i=.int .i64 k) (fun i=>(3 - intOf i).toNat)
   case atStart=>exact ⟨1,by omega,by omega,rfl⟩
   case round =>
    obtain ⟨k,hk1,hk2,rfl⟩:=hrel
    obtain rfl | rfl | rfl:k=1∨k=2∨k=3:=by omega
    ·go_wp2_with (go_at_call 46;refine (turn_at 1 256 (by decide) _).mono ?_;rintro e w' ⟨rfl,rfl⟩)
     go_round
     case rel=>exact ⟨2,by omega,by omega,rfl⟩
     case measure=>simp [intOf]
    ·go_wp2_with (go_at_call 46;refine (turn_at 2 65536 (by decide) _).mono ?_;rintro e w' ⟨rfl,rfl⟩)
     go_round
     case rel=>exact ⟨3,by omega,by omega,rfl⟩
     case measure=>simp [intOf]
    ·go_wp2_with (go_at_call 46;refine (turn_at 3 16777216 (by decide) _).mono ?_;rintro e w' ⟨rfl,rfl⟩)
     go_ret
     exact ⟨rfl,rfl⟩
  ·rw [e]
   clear e
   go_enter Tryd.func23,Tryd.ntmps23
   go_wp2
   go_loop [6] (fun i=>∃ k:Int,1≤k∧k≤4∧i=.int .i64 k) (fun i=>(4 - intOf i).toNat)
   case atStart=>exact ⟨1,by omega,by omega,rfl⟩
   case round =>
    obtain ⟨k,hk1,hk2,rfl⟩:=hrel
    obtain rfl | rfl | rfl | rfl:k=1∨k=2∨k=3∨k=4:=by omega
    ·go_wp2_with (go_at_call 46;refine (turn_at 1 256 (by decide) _).mono ?_;rintro e w' ⟨rfl,rfl⟩)
     go_round
     case rel=>exact ⟨2,by omega,by omega,rfl⟩
     case measure=>simp [intOf]
    ·go_wp2_with (go_at_call 46;refine (turn_at 2 65536 (by decide) _).mono ?_;rintro e w' ⟨rfl,rfl⟩)
     go_round
     case rel=>exact ⟨3,by omega,by omega,rfl⟩
     case measure=>simp [intOf]
    ·go_wp2_with (go_at_call 46;refine (turn_at 3 16777216 (by decide) _).mono ?_;rintro e w' ⟨rfl,rfl⟩)
     go_round
     case rel=>exact ⟨4,by omega,by omega,rfl⟩
     case measure=>simp [intOf]
    ·go_wp2
     go_ret
     exact ⟨rfl,rfl⟩
theorem mayR_in (x:Int):0≤mayR x∧mayR x≤4611686018427387903:=by
 unfold mayR inR;(repeat' split) <;> omega
theorem wrap_mod (y t:Int) (ht:t=256∨t=65536∨t=16777216∨t=4294967296):wrap64 y % t=y % t:=by
 unfold wrap64
 rcases ht with rfl | rfl | rfl | rfl <;> omega
theorem tn_or (k:Int):tn k=256∨tn k=65536∨tn k=16777216∨tn k=4294967296:=by
 rcases tn_cases k with ⟨h,_⟩ | ⟨h,_⟩ | ⟨h,_⟩ | ⟨h,_⟩ <;> simp [h]
theorem back_any (cut k next:Int) (w:World) :
  Calls Tryd.prog 53 #[.int .i64 cut,.int .i64 k,.int .i64 next] w fun e w'=>e=.returned (.int .i64 (backF cut k next))∧w=w':=by
 obtain ⟨x,hx⟩:∃ x,mayR next=x:=⟨_,rfl⟩
 have hx0:=mayR_in next
 rw [hx] at hx0
 obtain ⟨x0,x1⟩:=hx0
 have HX:Hid (inR next 0 4611686018427387903=x):=hx
 obtain ⟨t,ht⟩:∃ t,tn k=t:=⟨_,rfl⟩
 have hto:=tn_or k
 rw [ht] at hto
 obtain ⟨c,hc⟩:∃ c,(x - cut) % t=c:=⟨_,rfl⟩
 have HC:Hid (cutF (wrap64 (x - cut)) k=c):=by
  show _=_
  unfold cutF
  rw [ht,wrap_mod _ _ hto,hc]
 have t0:256≤t:=by omega
 have t1:t≤4294967296:=by omega
 have c0:0≤c:=by rw [← hc];exact Int.emod_nonneg _ (by omega)
 have c1:c<t:=by rw [← hc];exact Int.emod_lt_of_pos _ (by omega)
 have HG:Hid (backF cut k next=if x - c<0 then x - c+t else if 4611686018427387903<x - c+t then x - c else if (x - c+t) - x≤x - (x - c) then x - c+t else x - c):=by
  show _=_
  unfold backF backG
  rw [hx,ht,hc]
 have HT:=Lib.hid ht
 clear hc ht hx hto
 by_cases b1:x - c<0
 ·have e:Hid (backF cut k next=x - c+t):=by show _=_;rw [HG.out,if_pos b1]
  go_enter Tryd.func53,Tryd.ntmps53
  go_wp2_with (first | (go_at_call 68;refine (within_at _ _ _ x HX.out _).mono ?_;rintro e w' ⟨rfl,rfl⟩) | (go_at_call 45;refine (cut_at _ _ c HC.out _).mono ?_;rintro e w' ⟨rfl,rfl⟩) | (go_at_call 46;refine (turn_at _ t HT.out _).mono ?_;rintro e w' ⟨rfl,rfl⟩))
  go_ret
  exact ⟨ret_int e.out.symm,rfl⟩
 ·by_cases b2:4611686018427387903<x - c+t
  ·have e:Hid (backF cut k next=x - c):=by show _=_;rw [HG.out,if_neg b1,if_pos b2]
   go_enter Tryd.func53,Tryd.ntmps53
   go_wp2_with (first | (go_at_call 68;refine (within_at _ _ _ x HX.out _).mono ?_;rintro e w' ⟨rfl,rfl⟩) | (go_at_call 45;refine (cut_at _ _ c HC.out _).mono ?_;rintro e w' ⟨rfl,rfl⟩) | (go_at_call 46;refine (turn_at _ t HT.out _).mono ?_;rintro e w' ⟨rfl,rfl⟩))
   go_ret
   exact ⟨ret_int e.out.symm,rfl⟩
  ·by_cases b3:(x - c+t) - x≤x - (x - c)
   ·have e:Hid (backF cut k next=x - c+t):=by show _=_;rw [HG.out,if_neg b1,if_neg b2,if_pos b3]
    go_enter Tryd.func53,Tryd.ntmps53
    go_wp2_with (first | (go_at_call 68;refine (within_at _ _ _ x HX.out _).mono ?_;rintro e w' ⟨rfl,rfl⟩) | (go_at_call 45;refine (cut_at _ _ c HC.out _).mono ?_;rintro e w' ⟨rfl,rfl⟩) | (go_at_call 46;refine (turn_at _ t HT.out _).mono ?_;rintro e w' ⟨rfl,rfl⟩))
    go_ret
    exact ⟨ret_int e.out.symm,rfl⟩
   ·have e:Hid (backF cut k next=x - c):=by show _=_;rw [HG.out,if_neg b1,if_neg b2,if_neg b3]
    go_enter Tryd.func53,Tryd.ntmps53
    go_wp2_with (first | (go_at_call 68;refine (within_at _ _ _ x HX.out _).mono ?_;rintro e w' ⟨rfl,rfl⟩) | (go_at_call 45;refine (cut_at _ _ c HC.out _).mono ?_;rintro e w' ⟨rfl,rfl⟩) | (go_at_call 46;refine (turn_at _ t HT.out _).mono ?_;rintro e w' ⟨rfl,rfl⟩))
    go_ret
    exact ⟨ret_int e.out.symm,rfl⟩
theorem bytes_at (n a r:Int) (h:bytesF n a=r) (w:World) (h1:-9223372036854775808≤a) (h2:n≤9223372036854775807) :
  Calls Tryd.prog 23 #[.int .i64 n,.int .i64 a] w fun e w'=>e=.returned (.int .i64 r)∧w=w':=by
 have:=bytes_any n a w h1 h2
 rwa [h] at this
theorem hid_of {p:Prop} (h:p):Hid p:=h
theorem cutF_in (x k:Int):0≤cutF x k∧cutF x k<tn k:=by
 unfold cutF
 rcases tn_or k with h | h | h | h <;> rw [h] <;> omega
end Go.Proofs.YtccljifichaieaaDoor.Pn
