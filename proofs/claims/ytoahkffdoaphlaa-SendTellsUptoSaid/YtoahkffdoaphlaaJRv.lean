/- Joined texts. Conditions: as each theorem lists them. -/
import Derived.Test.YtoahkffdoaphlaaJV1
import Derived.Test.YtoahkffdoaphlaaJH1
import Derived.Test.YtoahkffdoaphlaaJF6
import Derived.Laws.Rows
set_option linter.unusedSimpArgs false
set_option linter.unusedVariables false
set_option maxRecDepth 100000
set_option maxHeartbeats 80000000
namespace Go.Proofs.Ytoahkffdoaphlaa.Rv
open Go Go.RowKit
theorem may_t (n:Int) (w:World) (h:wid n≠0):Calls Try.prog 52 #[.int .i64 n] w fun e w'=>e=.returned (.bool true)∧w=w':=by
 have h2:=may_any n w
 rwa [show mayB n=true by have:=wid_cases n h;unfold mayB;simp;omega] at h2
theorem may_f (n:Int) (w:World) (h:wid n=0):Calls Try.prog 52 #[.int .i64 n] w fun e w'=>e=.returned (.bool false)∧w=w':=by
 have h2:=may_any n w
 rwa [show mayB n=false by
  unfold wid at h
  split at h
  ·rename_i h1;unfold mayB;simp;omega
  ·(repeat' split at h) <;> omega] at h2
theorem rsize_any (n:Int) (w:World) (h:wid n≠0) :
  Calls Try.prog 127 #[.int .i64 n] w fun e w'=>e=.returned (.int .i64 ((wid n:Nat):Int))∧w=w':=by
 have HM:=Lib.hid (fun W=>may_t n W h)
 rcases wid_cases n h with ⟨hw,h1,h2⟩ | ⟨hw,h1,h2⟩ | ⟨hw,h1,h2⟩ | ⟨hw,h1,h2⟩
 all_goals
  rw [hw]
  clear hw h
  go_enter Try.func127,Try.ntmps127
  go_wp2_with (go_at_call 52;refine (HM.out _).mono ?_;rintro e w' ⟨rfl,rfl⟩)
  go_ret
  exact ⟨rfl,rfl⟩
theorem rSize_any (l:List Int) (B:Nat) (A:Option Addr) (cap:Nat) (w:World) (hx:Rd w B A l.length (ints l)) (hl:l.length<1000000000000000) :
  Calls Try.prog 124 #[.slice A l.length cap] w fun e w'=>e=.returned (.int .i64 (if allMay l then (sumW l:Int) else -1))∧w=w':=by
 have HX:=Lib.hid hx
 clear hx
 go_enter Try.func124,Try.ntmps124
 go_wp2_with fail
 go_loop [3,4] (fun s i=>∃ k:Nat,k≤l.length∧i=.int .i64 k∧s=.int .i64 (sumW (l.take k))∧Hid (∀ j,j<k→wid (l.getD j 0)≠0)) (fun _ i=>l.length - (intOf i).toNat)
 case atStart=>exact ⟨0,by omega,rfl,rfl,fun j h=>absurd h (by omega)⟩
 case round =>
  obtain ⟨k,hk,rfl,rfl,H⟩:=hrel
  have hs:=sumW_le (l.take k)
  have hs2:(l.take k).length≤k:=List.length_take_le _ _
  by_cases hlt:k<l.length
  ·have hltd:decide (k<l.length)=true:=by simpa using hlt
   have hlti:(k:Int)<(l.length:Int):=by omega
   obtain ⟨b,off,hA,hbn,hcs⟩:=HX.out.2 (by omega)
   subst hA
   obtain ⟨x,hx,hcell⟩:∃ x,Hid (l[k]=x)∧w.cell? ⟨b,off+k,none⟩=some (.int .i64 x):=⟨l[k],rfl,by rw [hcs k _ (ints_get l k hlt)];simp [List.getD,hlt]⟩
   have hxd:Hid (l.getD k 0=x):=Lib.hid ((show l.getD k 0=l[k] by simp [List.getD,hlt]).trans hx.out)
   clear hcs
   by_cases hz:wid x=0
   ·have HM:=Lib.hid (fun W=>may_f x W hz)
    have hno:Hid (¬ allMay l):=fun h=>h (l[k]) (List.getElem_mem hlt) (by rw [hx.out];exact hz)
    clear hz
    go_wp2_with (go_at_call 52;refine (HM.out _).mono ?_;rintro e w' ⟨rfl,rfl⟩)
    go_ret
    exact ⟨by first | rfl | (rw [if_neg hno.out];rfl),rfl⟩
   ·have HM:=Lib.hid (fun W=>may_t x W hz)
    have HS:=Lib.hid (fun W=>rsize_any x W hz)
    have hw8:=wid_le x
    have hsn:Hid (sumW (l.take (k+1))=sumW (l.take k)+wid x):=by rw [take_snoc' l k hlt,sumW_snoc,hx.out];exact rfl
    have H2:Hid (∀ j,j<k+1→wid (l.getD j 0)≠0):=fun j hj=>by
     rcases Nat.lt_or_ge j k with h1 | h1
     ·exact H.out j h1
     ·obtain rfl:j=k:=by omega
      rw [hxd.out];exact hz
    clear hz
    go_wp2_with (first | (go_at_call 52;refine (HM.out _).mono ?_;rintro e w' ⟨rfl,rfl⟩) | (go_at_call 127;refine (HS.out _).mono ?_;rintro e w' ⟨rfl,rfl⟩))
    go_round
    case rel=>exact ⟨k+1,by omega,by go_num,by rw [hsn.out];go_num,H2⟩
    case measure=>simp [intOf];omega
  ·have hltd:decide (k<l.length)=false:=by simpa using hlt
   have hall:Hid (allMay l):=fun n hn=>by
    obtain ⟨j,hj,rfl⟩:=List.mem_iff_getElem.1 hn
    have:=H.out j (by omega)
    simpa [List.getD,hj] using this
   have ht:l.take k=l:=List.take_of_length_le (by omega)
   rw [ht]
   clear ht
   go_wp2
   go_ret
   exact ⟨by first | rfl | (rw [if_pos hall.out];rfl),rfl⟩
theorem encB_get (n:Int) (W j:Nat) (hw:wid n=W) (hj:j<W):(encB n)[j]?=some (laidN n / 2 ^ (8 * (W - 1 - j)) % 256):=by
 subst hw
 simp [encB,hj]
theorem encB_take (n:Int) (W j d:Nat) (hw:wid n=W) (hj:j<W) (hd:laidN n / 2 ^ (8 * (W - 1 - j)) % 256=d):bv ((encB n).take (j+1))=bv ((encB n).take j) ++ [.int .u8 (d:Int)]:=by
 have hl:j<(encB n).length:=by rw [encB_len,hw];exact hj
 have hg:=encB_get n W j hw hj
 rw [List.getElem?_eq_getElem hl] at hg
 rw [List.take_succ_eq_append_getElem hl,Option.some.inj hg,hd]
 simp [bv]
theorem rput_1 (m:Nat) (w:World) (base:Nat) (v:Value) (M:Nat) (xs:List Value) (hown:w.ownsRow base 5 1 v M xs) (hm:M+1≤140737488355328) (hbase:base≤w.heap.size) (hw:wid (m:Int)=1) (hlt:m<64) :
  Calls Try.prog 125 #[v,.int .i64 (m:Int)] w fun e w'=>∃ v',e=.returned v'∧w'.ownsRow base 5 1 v' (M+1) (xs ++ encV (m:Int))∧Below base w w':=by
 have HO:=Lib.hid hown
 have HS:=Lib.hid (fun W=>rsize_any (m:Int) W (by rw [hw];decide))
 rw [hw] at HS
 have HW:=Lib.hid hw
 have hL:Hid (laidN (m:Int)=m+0):=by show _=_;simp [laidN,hw]
 clear hown hw
 obtain ⟨i0,hi,hz0,hz1,hz2⟩:=info_parts infoB
 have HI:=Lib.hid (And.intro hi (And.intro hz0 (And.intro hz1 hz2)))
 have hm0:(0:Int)≤(m:Int):=by omega
 have hm1:(m:Int)<64:=by omega
 clear hi hz0 hz1 hz2
 go_enter Try.func125,Try.ntmps125
 go_wp2_with (go_at_call 127;refine (HS.out _).mono ?_;rintro e w' ⟨rfl,rfl⟩)
 go_loopw [0,6] (fun v i wr=>∃ r:Nat,r≤1∧i=.int .i64 ((r:Int) - 1)∧Hid (wr.ownsRow base 5 1 v (M+(1 - r)) (xs ++ bv ((encB (m:Int)).take (1 - r)))∧Below base w wr)) (fun _ i _=>(intOf i+1).toNat)
 case atStart=>exact ⟨1,by omega,by go_num,by simpa [bv] using HO.out,Below.refl _ _⟩
 case round =>
  obtain ⟨r,hr,rfl,HR⟩:=hrel
  have hrc:r=0∨r=1:=by omega
  rcases hrc with rfl | rfl
  ·go_wp2
   go_ret
   refine ⟨_,rfl,?_,HR.out.2⟩
   have h:=HR.out.1
   rw [show (1 - 0:Nat)=1 by decide,List.take_of_length_le (by rw [encB_len,HW.out];exact Nat.le_refl _),← encV_bv] at h
   exact h
  ·have HD:Hid (laidN (m:Int) / 2 ^ (8 * (1 - 1 - 0)) % 256=m):=by
    show _=_
    rw [hL.out]
    simp only [Nat.reduceSub,Nat.reduceMul,Nat.reducePow]
    omega
   have hbd:(m:Int)≤255:=by omega
   obtain ⟨Mr,X,HE,HMr,HR2⟩:∃ Mr X,Hid (Mr=M+(1 - 1)∧X=xs ++ bv ((encB (m:Int)).take (1 - 1)))∧Mr+1≤140737488355328∧Hid (wr.ownsRow base 5 1 u0 Mr X∧Below base w wr):=⟨_,_,⟨rfl,rfl⟩,by omega,HR.out⟩
   go_wp2_with (at_builtin;refine wpList_append_own _ rfl _ _ 30 rfl base 5 i0 (.int .u8 0) 1 1 Try.underlying30 HI.out.1 HI.out.2.1 HI.out.2.2.1 HI.out.2.2.2 rfl (by decide) _ _ _ rfl (HR2.out.1.alloc _) ⟨wr.heap.size,0,none⟩ 1 1 [.int .u8 ((m:Int))] rfl rfl ?c1r1 ?c2r1 ?c3r1 ?c4r1 ?c5r1 ?_)
   case c1r1=>exact cell_one_new _ _ _
   case c2r1=>simp [Value.oneCell']
   case c3r1=>unfold maxLen;omega
   case c4r1=>omega
   case c5r1=>have:=HR2.out.2.size;simp;omega
   intro v1 w1 hown1 hgrow1 _
   have HN:Hid (w1.ownsRow base 5 1 v1 (M+(1 - 0)) (xs ++ bv ((encB (m:Int)).take (1 - 0)))∧Below base w w1):=by
    refine ⟨?_,(HR2.out.2.alloc (by have:=HR2.out.2.size;omega) _).grown hgrow1 (by have:=HR2.out.2.size;simp;omega) (fun g hg=>(HR2.out.1.lt g hg).1)⟩
    rw [show (1 - 0:Nat)=0+1 by decide,encB_take (m:Int) 1 0 (m) HW.out (by decide) HD.out,← List.append_assoc]
    rw [HE.out.1,HE.out.2] at hown1
    exact hown1
   clear hown1 hgrow1
   go_wp2
   go_roundw
   case rel=>exact ⟨0,by omega,by go_num,HN⟩
   case measure=>simp [intOf]
theorem rput_2 (m:Nat) (w:World) (base:Nat) (v:Value) (M:Nat) (xs:List Value) (hown:w.ownsRow base 5 1 v M xs) (hm:M+2≤140737488355328) (hbase:base≤w.heap.size) (hw:wid (m:Int)=2) (hlt:m<16384) :
  Calls Try.prog 125 #[v,.int .i64 (m:Int)] w fun e w'=>∃ v',e=.returned v'∧w'.ownsRow base 5 1 v' (M+2) (xs ++ encV (m:Int))∧Below base w w':=by
 have HO:=Lib.hid hown
 have HS:=Lib.hid (fun W=>rsize_any (m:Int) W (by rw [hw];decide))
 rw [hw] at HS
 have HW:=Lib.hid hw
 have hL:Hid (laidN (m:Int)=m+16384):=by show _=_;simp [laidN,hw]
 clear hown hw
 obtain ⟨i0,hi,hz0,hz1,hz2⟩:=info_parts infoB
 have HI:=Lib.hid (And.intro hi (And.intro hz0 (And.intro hz1 hz2)))
 have hm0:(0:Int)≤(m:Int):=by omega
 have hm1:(m:Int)<16384:=by omega
 clear hi hz0 hz1 hz2
 go_enter Try.func125,Try.ntmps125
 go_wp2_with (go_at_call 127;refine (HS.out _).mono ?_;rintro e w' ⟨rfl,rfl⟩)
 go_loopw [0,6] (fun v i wr=>∃ r:Nat,r≤2∧i=.int .i64 ((r:Int) - 1)∧Hid (wr.ownsRow base 5 1 v (M+(2 - r)) (xs ++ bv ((encB (m:Int)).take (2 - r)))∧Below base w wr)) (fun _ i _=>(intOf i+1).toNat)
 case atStart=>exact ⟨2,by omega,by go_num,by simpa [bv] using HO.out,Below.refl _ _⟩
 case round =>
  obtain ⟨r,hr,rfl,HR⟩:=hrel
  have hrc:r=0∨r=1∨r=2:=by omega
  rcases hrc with rfl | rfl | rfl
  ·go_wp2
   go_ret
   refine ⟨_,rfl,?_,HR.out.2⟩
   have h:=HR.out.1
   rw [show (2 - 0:Nat)=2 by decide,List.take_of_length_le (by rw [encB_len,HW.out];exact Nat.le_refl _),← encV_bv] at h
   exact h
  ·have HD:Hid (laidN (m:Int) / 2 ^ (8 * (2 - 1 - 1)) % 256=m % 256):=by
    show _=_
    rw [hL.out]
    simp only [Nat.reduceSub,Nat.reduceMul,Nat.reducePow]
    omega
   have hbd:(m:Int) % 256≤255:=by omega
   obtain ⟨Mr,X,HE,HMr,HR2⟩:∃ Mr X,Hid (Mr=M+(2 - 1)∧X=xs ++ bv ((encB (m:Int)).take (2 - 1)))∧Mr+1≤140737488355328∧Hid (wr.ownsRow base 5 1 u0 Mr X∧Below base w wr):=⟨_,_,⟨rfl,rfl⟩,by omega,HR.out⟩
   go_wp2_with (at_builtin;refine wpList_append_own _ rfl _ _ 30 rfl base 5 i0 (.int .u8 0) 1 1 Try.underlying30 HI.out.1 HI.out.2.1 HI.out.2.2.1 HI.out.2.2.2 rfl (by decide) _ _ _ rfl (HR2.out.1.alloc _) ⟨wr.heap.size,0,none⟩ 1 1 [.int .u8 ((m:Int) % 256)] rfl rfl ?c1r1 ?c2r1 ?c3r1 ?c4r1 ?c5r1 ?_)
   case c1r1=>exact cell_one_new _ _ _
   case c2r1=>simp [Value.oneCell']
   case c3r1=>unfold maxLen;omega
   case c4r1=>omega
   case c5r1=>have:=HR2.out.2.size;simp;omega
   intro v1 w1 hown1 hgrow1 _
   have HN:Hid (w1.ownsRow base 5 1 v1 (M+(2 - 0)) (xs ++ bv ((encB (m:Int)).take (2 - 0)))∧Below base w w1):=by
    refine ⟨?_,(HR2.out.2.alloc (by have:=HR2.out.2.size;omega) _).grown hgrow1 (by have:=HR2.out.2.size;simp;omega) (fun g hg=>(HR2.out.1.lt g hg).1)⟩
    rw [show (2 - 0:Nat)=1+1 by decide,encB_take (m:Int) 2 1 (m % 256) HW.out (by decide) HD.out,← List.append_assoc]
    rw [HE.out.1,HE.out.2] at hown1
    exact hown1
   clear hown1 hgrow1
   go_wp2
   go_roundw
   case rel=>exact ⟨0,by omega,by go_num,HN⟩
   case measure=>simp [intOf]
  ·have HD:Hid (laidN (m:Int) / 2 ^ (8 * (2 - 1 - 0)) % 256=m / 256+64):=by
    show _=_
    rw [hL.out]
    simp only [Nat.reduceSub,Nat.reduceMul,Nat.reducePow]
    omega
   have hbd:(m:Int) / 256+64≤255:=by omega
   obtain ⟨Mr,X,HE,HMr,HR2⟩:∃ Mr X,Hid (Mr=M+(2 - 2)∧X=xs ++ bv ((encB (m:Int)).take (2 - 2)))∧Mr+1≤140737488355328∧Hid (wr.ownsRow base 5 1 u0 Mr X∧Below base w wr):=⟨_,_,⟨rfl,rfl⟩,by omega,HR.out⟩
   go_wp2_with (at_builtin;refine wpList_append_own _ rfl _ _ 30 rfl base 5 i0 (.int .u8 0) 1 1 Try.underlying30 HI.out.1 HI.out.2.1 HI.out.2.2.1 HI.out.2.2.2 rfl (by decide) _ _ _ rfl (HR2.out.1.alloc _) ⟨wr.heap.size,0,none⟩ 1 1 [.int .u8 ((m:Int) / 256+64)] rfl rfl ?c1r2 ?c2r2 ?c3r2 ?c4r2 ?c5r2 ?_)
   case c1r2=>exact cell_one_new _ _ _
   case c2r2=>simp [Value.oneCell']
   case c3r2=>unfold maxLen;omega
   case c4r2=>omega
   case c5r2=>have:=HR2.out.2.size;simp;omega
   intro v1 w1 hown1 hgrow1 _
   have HN:Hid (w1.ownsRow base 5 1 v1 (M+(2 - 1)) (xs ++ bv ((encB (m:Int)).take (2 - 1)))∧Below base w w1):=by
    refine ⟨?_,(HR2.out.2.alloc (by have:=HR2.out.2.size;omega) _).grown hgrow1 (by have:=HR2.out.2.size;simp;omega) (fun g hg=>(HR2.out.1.lt g hg).1)⟩
    rw [show (2 - 1:Nat)=0+1 by decide,encB_take (m:Int) 2 0 (m / 256+64) HW.out (by decide) HD.out,← List.append_assoc]
    rw [HE.out.1,HE.out.2] at hown1
    exact hown1
   clear hown1 hgrow1
   go_wp2
   go_roundw
   case rel=>exact ⟨1,by omega,by go_num,HN⟩
   case measure=>simp [intOf]
theorem rput_4 (m:Nat) (w:World) (base:Nat) (v:Value) (M:Nat) (xs:List Value) (hown:w.ownsRow base 5 1 v M xs) (hm:M+4≤140737488355328) (hbase:base≤w.heap.size) (hw:wid (m:Int)=4) (hlt:m<1073741824) :
  Calls Try.prog 125 #[v,.int .i64 (m:Int)] w fun e w'=>∃ v',e=.returned v'∧w'.ownsRow base 5 1 v' (M+4) (xs ++ encV (m:Int))∧Below base w w':=by
 have HO:=Lib.hid hown
 have HS:=Lib.hid (fun W=>rsize_any (m:Int) W (by rw [hw];decide))
 rw [hw] at HS
 have HW:=Lib.hid hw
 have hL:Hid (laidN (m:Int)=m+2147483648):=by show _=_;simp [laidN,hw]
 clear hown hw
 obtain ⟨i0,hi,hz0,hz1,hz2⟩:=info_parts infoB
 have HI:=Lib.hid (And.intro hi (And.intro hz0 (And.intro hz1 hz2)))
 have hm0:(0:Int)≤(m:Int):=by omega
 have hm1:(m:Int)<1073741824:=by omega
 clear hi hz0 hz1 hz2
 go_enter Try.func125,Try.ntmps125
 go_wp2_with (go_at_call 127;refine (HS.out _).mono ?_;rintro e w' ⟨rfl,rfl⟩)
 go_loopw [0,6] (fun v i wr=>∃ r:Nat,r≤4∧i=.int .i64 ((r:Int) - 1)∧Hid (wr.ownsRow base 5 1 v (M+(4 - r)) (xs ++ bv ((encB (m:Int)).take (4 - r)))∧Below base w wr)) (fun _ i _=>(intOf i+1).toNat)
 case atStart=>exact ⟨4,by omega,by go_num,by simpa [bv] using HO.out,Below.refl _ _⟩
 case round =>
  obtain ⟨r,hr,rfl,HR⟩:=hrel
  have hrc:r=0∨r=1∨r=2∨r=3∨r=4:=by omega
  rcases hrc with rfl | rfl | rfl | rfl | rfl
  ·go_wp2
   go_ret
   refine ⟨_,rfl,?_,HR.out.2⟩
   have h:=HR.out.1
   rw [show (4 - 0:Nat)=4 by decide,List.take_of_length_le (by rw [encB_len,HW.out];exact Nat.le_refl _),← encV_bv] at h
   exact h
  ·have HD:Hid (laidN (m:Int) / 2 ^ (8 * (4 - 1 - 3)) % 256=m % 256):=by
    show _=_
    rw [hL.out]
    simp only [Nat.reduceSub,Nat.reduceMul,Nat.reducePow]
    omega
   have hbd:(m:Int) % 256≤255:=by omega
   obtain ⟨Mr,X,HE,HMr,HR2⟩:∃ Mr X,Hid (Mr=M+(4 - 1)∧X=xs ++ bv ((encB (m:Int)).take (4 - 1)))∧Mr+1≤140737488355328∧Hid (wr.ownsRow base 5 1 u0 Mr X∧Below base w wr):=⟨_,_,⟨rfl,rfl⟩,by omega,HR.out⟩
   go_wp2_with (at_builtin;refine wpList_append_own _ rfl _ _ 30 rfl base 5 i0 (.int .u8 0) 1 1 Try.underlying30 HI.out.1 HI.out.2.1 HI.out.2.2.1 HI.out.2.2.2 rfl (by decide) _ _ _ rfl (HR2.out.1.alloc _) ⟨wr.heap.size,0,none⟩ 1 1 [.int .u8 ((m:Int) % 256)] rfl rfl ?c1r1 ?c2r1 ?c3r1 ?c4r1 ?c5r1 ?_)
   case c1r1=>exact cell_one_new _ _ _
   case c2r1=>simp [Value.oneCell']
   case c3r1=>unfold maxLen;omega
   case c4r1=>omega
   case c5r1=>have:=HR2.out.2.size;simp;omega
   intro v1 w1 hown1 hgrow1 _
   have HN:Hid (w1.ownsRow base 5 1 v1 (M+(4 - 0)) (xs ++ bv ((encB (m:Int)).take (4 - 0)))∧Below base w w1):=by
    refine ⟨?_,(HR2.out.2.alloc (by have:=HR2.out.2.size;omega) _).grown hgrow1 (by have:=HR2.out.2.size;simp;omega) (fun g hg=>(HR2.out.1.lt g hg).1)⟩
    rw [show (4 - 0:Nat)=3+1 by decide,encB_take (m:Int) 4 3 (m % 256) HW.out (by decide) HD.out,← List.append_assoc]
    rw [HE.out.1,HE.out.2] at hown1
    exact hown1
   clear hown1 hgrow1
   go_wp2
   go_roundw
   case rel=>exact ⟨0,by omega,by go_num,HN⟩
   case measure=>simp [intOf]
  ·have HD:Hid (laidN (m:Int) / 2 ^ (8 * (4 - 1 - 2)) % 256=m / 256 % 256):=by
    show _=_
    rw [hL.out]
    simp only [Nat.reduceSub,Nat.reduceMul,Nat.reducePow]
    omega
   have hbd:(m:Int) / 256 % 256≤255:=by omega
   obtain ⟨Mr,X,HE,HMr,HR2⟩:∃ Mr X,Hid (Mr=M+(4 - 2)∧X=xs ++ bv ((encB (m:Int)).take (4 - 2)))∧Mr+1≤140737488355328∧Hid (wr.ownsRow base 5 1 u0 Mr X∧Below base w wr):=⟨_,_,⟨rfl,rfl⟩,by omega,HR.out⟩
   go_wp2_with (at_builtin;refine wpList_append_own _ rfl _ _ 30 rfl base 5 i0 (.int .u8 0) 1 1 Try.underlying30 HI.out.1 HI.out.2.1 HI.out.2.2.1 HI.out.2.2.2 rfl (by decide) _ _ _ rfl (HR2.out.1.alloc _) ⟨wr.heap.size,0,none⟩ 1 1 [.int .u8 ((m:Int) / 256 % 256)] rfl rfl ?c1r2 ?c2r2 ?c3r2 ?c4r2 ?c5r2 ?_)
   case c1r2=>exact cell_one_new _ _ _
   case c2r2=>simp [Value.oneCell']
   case c3r2=>unfold maxLen;omega
   case c4r2=>omega
   case c5r2=>have:=HR2.out.2.size;simp;omega
   intro v1 w1 hown1 hgrow1 _
   have HN:Hid (w1.ownsRow base 5 1 v1 (M+(4 - 1)) (xs ++ bv ((encB (m:Int)).take (4 - 1)))∧Below base w w1):=by
    refine ⟨?_,(HR2.out.2.alloc (by have:=HR2.out.2.size;omega) _).grown hgrow1 (by have:=HR2.out.2.size;simp;omega) (fun g hg=>(HR2.out.1.lt g hg).1)⟩
    rw [show (4 - 1:Nat)=2+1 by decide,encB_take (m:Int) 4 2 (m / 256 % 256) HW.out (by decide) HD.out,← List.append_assoc]
    rw [HE.out.1,HE.out.2] at hown1
    exact hown1
   clear hown1 hgrow1
   go_wp2
   go_roundw
   case rel=>exact ⟨1,by omega,by go_num,HN⟩
   case measure=>simp [intOf]
  ·have HD:Hid (laidN (m:Int) / 2 ^ (8 * (4 - 1 - 1)) % 256=m / 65536 % 256):=by
    show _=_
    rw [hL.out]
    simp only [Nat.reduceSub,Nat.reduceMul,Nat.reducePow]
    omega
   have hbd:(m:Int) / 65536 % 256≤255:=by omega
   obtain ⟨Mr,X,HE,HMr,HR2⟩:∃ Mr X,Hid (Mr=M+(4 - 3)∧X=xs ++ bv ((encB (m:Int)).take (4 - 3)))∧Mr+1≤140737488355328∧Hid (wr.ownsRow base 5 1 u0 Mr X∧Below base w wr):=⟨_,_,⟨rfl,rfl⟩,by omega,HR.out⟩
   go_wp2_with (at_builtin;refine wpList_append_own _ rfl _ _ 30 rfl base 5 i0 (.int .u8 0) 1 1 Try.underlying30 HI.out.1 HI.out.2.1 HI.out.2.2.1 HI.out.2.2.2 rfl (by decide) _ _ _ rfl (HR2.out.1.alloc _) ⟨wr.heap.size,0,none⟩ 1 1 [.int .u8 ((m:Int) / 65536 % 256)] rfl rfl ?c1r3 ?c2r3 ?c3r3 ?c4r3 ?c5r3 ?_)
   case c1r3=>exact cell_one_new _ _ _
   case c2r3=>simp [Value.oneCell']
   case c3r3=>unfold maxLen;omega
   case c4r3=>omega
   case c5r3=>have:=HR2.out.2.size;simp;omega
   intro v1 w1 hown1 hgrow1 _
   have HN:Hid (w1.ownsRow base 5 1 v1 (M+(4 - 2)) (xs ++ bv ((encB (m:Int)).take (4 - 2)))∧Below base w w1):=by
    refine ⟨?_,(HR2.out.2.alloc (by have:=HR2.out.2.size;omega) _).grown hgrow1 (by have:=HR2.out.2.size;simp;omega) (fun g hg=>(HR2.out.1.lt g hg).1)⟩
    rw [show (4 - 2:Nat)=1+1 by decide,encB_take (m:Int) 4 1 (m / 65536 % 256) HW.out (by decide) HD.out,← List.append_assoc]
    rw [HE.out.1,HE.out.2] at hown1
    exact hown1
   clear hown1 hgrow1
   go_wp2
   go_roundw
   case rel=>exact ⟨2,by omega,by go_num,HN⟩
   case measure=>simp [intOf]
  ·have HD:Hid (laidN (m:Int) / 2 ^ (8 * (4 - 1 - 0)) % 256=m / 16777216+128):=by
    show _=_
    rw [hL.out]
    simp only [Nat.reduceSub,Nat.reduceMul,Nat.reducePow]
    omega
   have hbd:(m:Int) / 16777216+128≤255:=by omega
   obtain ⟨Mr,X,HE,HMr,HR2⟩:∃ Mr X,Hid (Mr=M+(4 - 4)∧X=xs ++ bv ((encB (m:Int)).take (4 - 4)))∧Mr+1≤140737488355328∧Hid (wr.ownsRow base 5 1 u0 Mr X∧Below base w wr):=⟨_,_,⟨rfl,rfl⟩,by omega,HR.out⟩
   go_wp2_with (at_builtin;refine wpList_append_own _ rfl _ _ 30 rfl base 5 i0 (.int .u8 0) 1 1 Try.underlying30 HI.out.1 HI.out.2.1 HI.out.2.2.1 HI.out.2.2.2 rfl (by decide) _ _ _ rfl (HR2.out.1.alloc _) ⟨wr.heap.size,0,none⟩ 1 1 [.int .u8 ((m:Int) / 16777216+128)] rfl rfl ?c1r4 ?c2r4 ?c3r4 ?c4r4 ?c5r4 ?_)
   case c1r4=>exact cell_one_new _ _ _
   case c2r4=>simp [Value.oneCell']
   case c3r4=>unfold maxLen;omega
   case c4r4=>omega
   case c5r4=>have:=HR2.out.2.size;simp;omega
   intro v1 w1 hown1 hgrow1 _
   have HN:Hid (w1.ownsRow base 5 1 v1 (M+(4 - 3)) (xs ++ bv ((encB (m:Int)).take (4 - 3)))∧Below base w w1):=by
    refine ⟨?_,(HR2.out.2.alloc (by have:=HR2.out.2.size;omega) _).grown hgrow1 (by have:=HR2.out.2.size;simp;omega) (fun g hg=>(HR2.out.1.lt g hg).1)⟩
    rw [show (4 - 3:Nat)=0+1 by decide,encB_take (m:Int) 4 0 (m / 16777216+128) HW.out (by decide) HD.out,← List.append_assoc]
    rw [HE.out.1,HE.out.2] at hown1
    exact hown1
   clear hown1 hgrow1
   go_wp2
   go_roundw
   case rel=>exact ⟨3,by omega,by go_num,HN⟩
   case measure=>simp [intOf]
theorem rput_8 (m:Nat) (w:World) (base:Nat) (v:Value) (M:Nat) (xs:List Value) (hown:w.ownsRow base 5 1 v M xs) (hm:M+8≤140737488355328) (hbase:base≤w.heap.size) (hw:wid (m:Int)=8) (hlt:m<4611686018427387904) :
  Calls Try.prog 125 #[v,.int .i64 (m:Int)] w fun e w'=>∃ v',e=.returned v'∧w'.ownsRow base 5 1 v' (M+8) (xs ++ encV (m:Int))∧Below base w w':=by
 have HO:=Lib.hid hown
 have HS:=Lib.hid (fun W=>rsize_any (m:Int) W (by rw [hw];decide))
 rw [hw] at HS
 have HW:=Lib.hid hw
 have hL:Hid (laidN (m:Int)=m+13835058055282163712):=by show _=_;simp [laidN,hw]
 clear hown hw
 obtain ⟨i0,hi,hz0,hz1,hz2⟩:=info_parts infoB
 have HI:=Lib.hid (And.intro hi (And.intro hz0 (And.intro hz1 hz2)))
 have hm0:(0:Int)≤(m:Int):=by omega
 have hm1:(m:Int)<4611686018427387904:=by omega
 clear hi hz0 hz1 hz2
 go_enter Try.func125,Try.ntmps125
 go_wp2_with (go_at_call 127;refine (HS.out _).mono ?_;rintro e w' ⟨rfl,rfl⟩)
 go_loopw [0,6] (fun v i wr=>∃ r:Nat,r≤8∧i=.int .i64 ((r:Int) - 1)∧Hid (wr.ownsRow base 5 1 v (M+(8 - r)) (xs ++ bv ((encB (m:Int)).take (8 - r)))∧Below base w wr)) (fun _ i _=>(intOf i+1).toNat)
 case atStart=>exact ⟨8,by omega,by go_num,by simpa [bv] using HO.out,Below.refl _ _⟩
 case round =>
  obtain ⟨r,hr,rfl,HR⟩:=hrel
  have hrc:r=0∨r=1∨r=2∨r=3∨r=4∨r=5∨r=6∨r=7∨r=8:=by omega
  rcases hrc with rfl | rfl | rfl | rfl | rfl | rfl | rfl | rfl | rfl
  ·go_wp2
   go_ret
   refine ⟨_,rfl,?_,HR.out.2⟩
   have h:=HR.out.1
   rw [show (8 - 0:Nat)=8 by decide,List.take_of_length_le (by rw [encB_len,HW.out];exact Nat.le_refl _),← encV_bv] at h
   exact h
  ·have HD:Hid (laidN (m:Int) / 2 ^ (8 * (8 - 1 - 7)) % 256=m % 256):=by
    show _=_
    rw [hL.out]
    simp only [Nat.reduceSub,Nat.reduceMul,Nat.reducePow]
    omega
   have hbd:(m:Int) % 256≤255:=by omega
   obtain ⟨Mr,X,HE,HMr,HR2⟩:∃ Mr X,Hid (Mr=M+(8 - 1)∧X=xs ++ bv ((encB (m:Int)).take (8 - 1)))∧Mr+1≤140737488355328∧Hid (wr.ownsRow base 5 1 u0 Mr X∧Below base w wr):=⟨_,_,⟨rfl,rfl⟩,by omega,HR.out⟩
   go_wp2_with (at_builtin;refine wpList_append_own _ rfl _ _ 30 rfl base 5 i0 (.int .u8 0) 1 1 Try.underlying30 HI.out.1 HI.out.2.1 HI.out.2.2.1 HI.out.2.2.2 rfl (by decide) _ _ _ rfl (HR2.out.1.alloc _) ⟨wr.heap.size,0,none⟩ 1 1 [.int .u8 ((m:Int) % 256)] rfl rfl ?c1r1 ?c2r1 ?c3r1 ?c4r1 ?c5r1 ?_)
   case c1r1=>exact cell_one_new _ _ _
   case c2r1=>simp [Value.oneCell']
   case c3r1=>unfold maxLen;omega
   case c4r1=>omega
   case c5r1=>have:=HR2.out.2.size;simp;omega
   intro v1 w1 hown1 hgrow1 _
   have HN:Hid (w1.ownsRow base 5 1 v1 (M+(8 - 0)) (xs ++ bv ((encB (m:Int)).take (8 - 0)))∧Below base w w1):=by
    refine ⟨?_,(HR2.out.2.alloc (by have:=HR2.out.2.size;omega) _).grown hgrow1 (by have:=HR2.out.2.size;simp;omega) (fun g hg=>(HR2.out.1.lt g hg).1)⟩
    rw [show (8 - 0:Nat)=7+1 by decide,encB_take (m:Int) 8 7 (m % 256) HW.out (by decide) HD.out,← List.append_assoc]
    rw [HE.out.1,HE.out.2] at hown1
    exact hown1
   clear hown1 hgrow1
   go_wp2
   go_roundw
   case rel=>exact ⟨0,by omega,by go_num,HN⟩
   case measure=>simp [intOf]
  ·have HD:Hid (laidN (m:Int) / 2 ^ (8 * (8 - 1 - 6)) % 256=m / 256 % 256):=by
    show _=_
    rw [hL.out]
    simp only [Nat.reduceSub,Nat.reduceMul,Nat.reducePow]
    omega
   have hbd:(m:Int) / 256 % 256≤255:=by omega
   obtain ⟨Mr,X,HE,HMr,HR2⟩:∃ Mr X,Hid (Mr=M+(8 - 2)∧X=xs ++ bv ((encB (m:Int)).take (8 - 2)))∧Mr+1≤140737488355328∧Hid (wr.ownsRow base 5 1 u0 Mr X∧Below base w wr):=⟨_,_,⟨rfl,rfl⟩,by omega,HR.out⟩
   go_wp2_with (at_builtin;refine wpList_append_own _ rfl _ _ 30 rfl base 5 i0 (.int .u8 0) 1 1 Try.underlying30 HI.out.1 HI.out.2.1 HI.out.2.2.1 HI.out.2.2.2 rfl (by decide) _ _ _ rfl (HR2.out.1.alloc _) ⟨wr.heap.size,0,none⟩ 1 1 [.int .u8 ((m:Int) / 256 % 256)] rfl rfl ?c1r2 ?c2r2 ?c3r2 ?c4r2 ?c5r2 ?_)
   case c1r2=>exact cell_one_new _ _ _
   case c2r2=>simp [Value.oneCell']
   case c3r2=>unfold maxLen;omega
   case c4r2=>omega
   case c5r2=>have:=HR2.out.2.size;simp;omega
   intro v1 w1 hown1 hgrow1 _
   have HN:Hid (w1.ownsRow base 5 1 v1 (M+(8 - 1)) (xs ++ bv ((encB (m:Int)).take (8 - 1)))∧Below base w w1):=by
    refine ⟨?_,(HR2.out.2.alloc (by have:=HR2.out.2.size;omega) _).grown hgrow1 (by have:=HR2.out.2.size;simp;omega) (fun g hg=>(HR2.out.1.lt g hg).1)⟩
    rw [show (8 - 1:Nat)=6+1 by decide,encB_take (m:Int) 8 6 (m / 256 % 256) HW.out (by decide) HD.out,← List.append_assoc]
    rw [HE.out.1,HE.out.2] at hown1
    exact hown1
   clear hown1 hgrow1
   go_wp2
   go_roundw
   case rel=>exact ⟨1,by omega,by go_num,HN⟩
   case measure=>simp [intOf]
  ·have HD:Hid (laidN (m:Int) / 2 ^ (8 * (8 - 1 - 5)) % 256=m / 65536 % 256):=by
    show _=_
    rw [hL.out]
    simp only [Nat.reduceSub,Nat.reduceMul,Nat.reducePow]
    omega
   have hbd:(m:Int) / 65536 % 256≤255:=by omega
   obtain ⟨Mr,X,HE,HMr,HR2⟩:∃ Mr X,Hid (Mr=M+(8 - 3)∧X=xs ++ bv ((encB (m:Int)).take (8 - 3)))∧Mr+1≤140737488355328∧Hid (wr.ownsRow base 5 1 u0 Mr X∧Below base w wr):=⟨_,_,⟨rfl,rfl⟩,by omega,HR.out⟩
   go_wp2_with (at_builtin;refine wpList_append_own _ rfl _ _ 30 rfl base 5 i0 (.int .u8 0) 1 1 Try.underlying30 HI.out.1 HI.out.2.1 HI.out.2.2.1 HI.out.2.2.2 rfl (by decide) _ _ _ rfl (HR2.out.1.alloc _) ⟨wr.heap.size,0,none⟩ 1 1 [.int .u8 ((m:Int) / 65536 % 256)] rfl rfl ?c1r3 ?c2r3 ?c3r3 ?c4r3 ?c5r3 ?_)
   case c1r3=>exact cell_one_new _ _ _
   case c2r3=>simp [Value.oneCell']
   case c3r3=>unfold maxLen;omega
   case c4r3=>omega
   case c5r3=>have:=HR2.out.2.size;simp;omega
   intro v1 w1 hown1 hgrow1 _
   have HN:Hid (w1.ownsRow base 5 1 v1 (M+(8 - 2)) (xs ++ bv ((encB (m:Int)).take (8 - 2)))∧Below base w w1):=by
    refine ⟨?_,(HR2.out.2.alloc (by have:=HR2.out.2.size;omega) _).grown hgrow1 (by have:=HR2.out.2.size;simp;omega) (fun g hg=>(HR2.out.1.lt g hg).1)⟩
    rw [show (8 - 2:Nat)=5+1 by decide,encB_take (m:Int) 8 5 (m / 65536 % 256) HW.out (by decide) HD.out,← List.append_assoc]
    rw [HE.out.1,HE.out.2] at hown1
    exact hown1
   clear hown1 hgrow1
   go_wp2
   go_roundw
   case rel=>exact ⟨2,by omega,by go_num,HN⟩
   case measure=>simp [intOf]
  ·have HD:Hid (laidN (m:Int) / 2 ^ (8 * (8 - 1 - 4)) % 256=m / 16777216 % 256):=by
    show _=_
    rw [hL.out]
    simp only [Nat.reduceSub,Nat.reduceMul,Nat.reducePow]
    omega
   have hbd:(m:Int) / 16777216 % 256≤255:=by omega
   obtain ⟨Mr,X,HE,HMr,HR2⟩:∃ Mr X,Hid (Mr=M+(8 - 4)∧X=xs ++ bv ((encB (m:Int)).take (8 - 4)))∧Mr+1≤140737488355328∧Hid (wr.ownsRow base 5 1 u0 Mr X∧Below base w wr):=⟨_,_,⟨rfl,rfl⟩,by omega,HR.out⟩
   go_wp2_with (at_builtin;refine wpList_append_own _ rfl _ _ 30 rfl base 5 i0 (.int .u8 0) 1 1 Try.underlying30 HI.out.1 HI.out.2.1 HI.out.2.2.1 HI.out.2.2.2 rfl (by decide) _ _ _ rfl (HR2.out.1.alloc _) ⟨wr.heap.size,0,none⟩ 1 1 [.int .u8 ((m:Int) / 16777216 % 256)] rfl rfl ?c1r4 ?c2r4 ?c3r4 ?c4r4 ?c5r4 ?_)
   case c1r4=>exact cell_one_new _ _ _
   case c2r4=>simp [Value.oneCell']
   case c3r4=>unfold maxLen;omega
   case c4r4=>omega
   case c5r4=>have:=HR2.out.2.size;simp;omega
   intro v1 w1 hown1 hgrow1 _
   have HN:Hid (w1.ownsRow base 5 1 v1 (M+(8 - 3)) (xs ++ bv ((encB (m:Int)).take (8 - 3)))∧Below base w w1):=by
    refine ⟨?_,(HR2.out.2.alloc (by have:=HR2.out.2.size;omega) _).grown hgrow1 (by have:=HR2.out.2.size;simp;omega) (fun g hg=>(HR2.out.1.lt g hg).1)⟩
    rw [show (8 - 3:Nat)=4+1 by decide,encB_take (m:Int) 8 4 (m / 16777216 % 256) HW.out (by decide) HD.out,← List.append_assoc]
    rw [HE.out.1,HE.out.2] at hown1
    exact hown1
   clear hown1 hgrow1
   go_wp2
   go_roundw
   case rel=>exact ⟨3,by omega,by go_num,HN⟩
   case measure=>simp [intOf]
  ·have HD:Hid (laidN (m:Int) / 2 ^ (8 * (8 - 1 - 3)) % 256=m / 4294967296 % 256):=by
    show _=_
    rw [hL.out]
    simp only [Nat.reduceSub,Nat.reduceMul,Nat.reducePow]
    omega
   have hbd:(m:Int) / 4294967296 % 256≤255:=by omega
   obtain ⟨Mr,X,HE,HMr,HR2⟩:∃ Mr X,Hid (Mr=M+(8 - 5)∧X=xs ++ bv ((encB (m:Int)).take (8 - 5)))∧Mr+1≤140737488355328∧Hid (wr.ownsRow base 5 1 u0 Mr X∧Below base w wr):=⟨_,_,⟨rfl,rfl⟩,by omega,HR.out⟩
   go_wp2_with (at_builtin;refine wpList_append_own _ rfl _ _ 30 rfl base 5 i0 (.int .u8 0) 1 1 Try.underlying30 HI.out.1 HI.out.2.1 HI.out.2.2.1 HI.out.2.2.2 rfl (by decide) _ _ _ rfl (HR2.out.1.alloc _) ⟨wr.heap.size,0,none⟩ 1 1 [.int .u8 ((m:Int) / 4294967296 % 256)] rfl rfl ?c1r5 ?c2r5 ?c3r5 ?c4r5 ?c5r5 ?_)
   case c1r5=>exact cell_one_new _ _ _
   case c2r5=>simp [Value.oneCell']
   case c3r5=>unfold maxLen;omega
   case c4r5=>omega
   case c5r5=>have:=HR2.out.2.size;simp;omega
   intro v1 w1 hown1 hgrow1 _
   have HN:Hid (w1.ownsRow base 5 1 v1 (M+(8 - 4)) (xs ++ bv ((encB (m:Int)).take (8 - 4)))∧Below base w w1):=by
    refine ⟨?_,(HR2.out.2.alloc (by have:=HR2.out.2.size;omega) _).grown hgrow1 (by have:=HR2.out.2.size;simp;omega) (fun g hg=>(HR2.out.1.lt g hg).1)⟩
    rw [show (8 - 4:Nat)=3+1 by decide,encB_take (m:Int) 8 3 (m / 4294967296 % 256) HW.out (by decide) HD.out,← List.append_assoc]
    rw [HE.out.1,HE.out.2] at hown1
    exact hown1
   clear hown1 hgrow1
   go_wp2
   go_roundw
   case rel=>exact ⟨4,by omega,by go_num,HN⟩
   case measure=>simp [intOf]
  ·have HD:Hid (laidN (m:Int) / 2 ^ (8 * (8 - 1 - 2)) % 256=m / 1099511627776 % 256):=by
    show _=_
    rw [hL.out]
    simp only [Nat.reduceSub,Nat.reduceMul,Nat.reducePow]
    omega
   have hbd:(m:Int) / 1099511627776 % 256≤255:=by omega
   obtain ⟨Mr,X,HE,HMr,HR2⟩:∃ Mr X,Hid (Mr=M+(8 - 6)∧X=xs ++ bv ((encB (m:Int)).take (8 - 6)))∧Mr+1≤140737488355328∧Hid (wr.ownsRow base 5 1 u0 Mr X∧Below base w wr):=⟨_,_,⟨rfl,rfl⟩,by omega,HR.out⟩
   go_wp2_with (at_builtin;refine wpList_append_own _ rfl _ _ 30 rfl base 5 i0 (.int .u8 0) 1 1 Try.underlying30 HI.out.1 HI.out.2.1 HI.out.2.2.1 HI.out.2.2.2 rfl (by decide) _ _ _ rfl (HR2.out.1.alloc _) ⟨wr.heap.size,0,none⟩ 1 1 [.int .u8 ((m:Int) / 1099511627776 % 256)] rfl rfl ?c1r6 ?c2r6 ?c3r6 ?c4r6 ?c5r6 ?_)
   case c1r6=>exact cell_one_new _ _ _
   case c2r6=>simp [Value.oneCell']
   case c3r6=>unfold maxLen;omega
   case c4r6=>omega
   case c5r6=>have:=HR2.out.2.size;simp;omega
   intro v1 w1 hown1 hgrow1 _
   have HN:Hid (w1.ownsRow base 5 1 v1 (M+(8 - 5)) (xs ++ bv ((encB (m:Int)).take (8 - 5)))∧Below base w w1):=by
    refine ⟨?_,(HR2.out.2.alloc (by have:=HR2.out.2.size;omega) _).grown hgrow1 (by have:=HR2.out.2.size;simp;omega) (fun g hg=>(HR2.out.1.lt g hg).1)⟩
    rw [show (8 - 5:Nat)=2+1 by decide,encB_take (m:Int) 8 2 (m / 1099511627776 % 256) HW.out (by decide) HD.out,← List.append_assoc]
    rw [HE.out.1,HE.out.2] at hown1
    exact hown1
   clear hown1 hgrow1
   go_wp2
   go_roundw
   case rel=>exact ⟨5,by omega,by go_num,HN⟩
   case measure=>simp [intOf]
  ·have HD:Hid (laidN (m:Int) / 2 ^ (8 * (8 - 1 - 1)) % 256=m / 281474976710656 % 256):=by
    show _=_
    rw [hL.out]
    simp only [Nat.reduceSub,Nat.reduceMul,Nat.reducePow]
    omega
   have hbd:(m:Int) / 281474976710656 % 256≤255:=by omega
   obtain ⟨Mr,X,HE,HMr,HR2⟩:∃ Mr X,Hid (Mr=M+(8 - 7)∧X=xs ++ bv ((encB (m:Int)).take (8 - 7)))∧Mr+1≤140737488355328∧Hid (wr.ownsRow base 5 1 u0 Mr X∧Below base w wr):=⟨_,_,⟨rfl,rfl⟩,by omega,HR.out⟩
   go_wp2_with (at_builtin;refine wpList_append_own _ rfl _ _ 30 rfl base 5 i0 (.int .u8 0) 1 1 Try.underlying30 HI.out.1 HI.out.2.1 HI.out.2.2.1 HI.out.2.2.2 rfl (by decide) _ _ _ rfl (HR2.out.1.alloc _) ⟨wr.heap.size,0,none⟩ 1 1 [.int .u8 ((m:Int) / 281474976710656 % 256)] rfl rfl ?c1r7 ?c2r7 ?c3r7 ?c4r7 ?c5r7 ?_)
   case c1r7=>exact cell_one_new _ _ _
   case c2r7=>simp [Value.oneCell']
   case c3r7=>unfold maxLen;omega
   case c4r7=>omega
   case c5r7=>have:=HR2.out.2.size;simp;omega
   intro v1 w1 hown1 hgrow1 _
   have HN:Hid (w1.ownsRow base 5 1 v1 (M+(8 - 6)) (xs ++ bv ((encB (m:Int)).take (8 - 6)))∧Below base w w1):=by
    refine ⟨?_,(HR2.out.2.alloc (by have:=HR2.out.2.size;omega) _).grown hgrow1 (by have:=HR2.out.2.size;simp;omega) (fun g hg=>(HR2.out.1.lt g hg).1)⟩
    rw [show (8 - 6:Nat)=1+1 by decide,encB_take (m:Int) 8 1 (m / 281474976710656 % 256) HW.out (by decide) HD.out,← List.append_assoc]
    rw [HE.out.1,HE.out.2] at hown1
    exact hown1
   clear hown1 hgrow1
   go_wp2
   go_roundw
   case rel=>exact ⟨6,by omega,by go_num,HN⟩
   case measure=>simp [intOf]
  ·have HD:Hid (laidN (m:Int) / 2 ^ (8 * (8 - 1 - 0)) % 256=m / 72057594037927936+192):=by
    show _=_
    rw [hL.out]
    simp only [Nat.reduceSub,Nat.reduceMul,Nat.reducePow]
    omega
   have hbd:(m:Int) / 72057594037927936+192≤255:=by omega
   obtain ⟨Mr,X,HE,HMr,HR2⟩:∃ Mr X,Hid (Mr=M+(8 - 8)∧X=xs ++ bv ((encB (m:Int)).take (8 - 8)))∧Mr+1≤140737488355328∧Hid (wr.ownsRow base 5 1 u0 Mr X∧Below base w wr):=⟨_,_,⟨rfl,rfl⟩,by omega,HR.out⟩
   go_wp2_with (at_builtin;refine wpList_append_own _ rfl _ _ 30 rfl base 5 i0 (.int .u8 0) 1 1 Try.underlying30 HI.out.1 HI.out.2.1 HI.out.2.2.1 HI.out.2.2.2 rfl (by decide) _ _ _ rfl (HR2.out.1.alloc _) ⟨wr.heap.size,0,none⟩ 1 1 [.int .u8 ((m:Int) / 72057594037927936+192)] rfl rfl ?c1r8 ?c2r8 ?c3r8 ?c4r8 ?c5r8 ?_)
   case c1r8=>exact cell_one_new _ _ _
   case c2r8=>simp [Value.oneCell']
   case c3r8=>unfold maxLen;omega
   case c4r8=>omega
   case c5r8=>have:=HR2.out.2.size;simp;omega
   intro v1 w1 hown1 hgrow1 _
   have HN:Hid (w1.ownsRow base 5 1 v1 (M+(8 - 7)) (xs ++ bv ((encB (m:Int)).take (8 - 7)))∧Below base w w1):=by
    refine ⟨?_,(HR2.out.2.alloc (by have:=HR2.out.2.size;omega) _).grown hgrow1 (by have:=HR2.out.2.size;simp;omega) (fun g hg=>(HR2.out.1.lt g hg).1)⟩
    rw [show (8 - 7:Nat)=0+1 by decide,encB_take (m:Int) 8 0 (m / 72057594037927936+192) HW.out (by decide) HD.out,← List.append_assoc]
    rw [HE.out.1,HE.out.2] at hown1
    exact hown1
   clear hown1 hgrow1
   go_wp2
   go_roundw
   case rel=>exact ⟨7,by omega,by go_num,HN⟩
   case measure=>simp [intOf]
theorem rput_any (x:Int) (w:World) (base:Nat) (v:Value) (M:Nat) (xs:List Value) (hown:w.ownsRow base 5 1 v M xs) (hm:M+wid x≤140737488355328) (hbase:base≤w.heap.size) (hw:wid x≠0) :
  Calls Try.prog 125 #[v,.int .i64 x] w fun e w'=>∃ v',e=.returned v'∧w'.ownsRow base 5 1 v' (M+wid x) (xs ++ encV x)∧Below base w w':=by
 obtain ⟨m,rfl⟩:∃ m:Nat,x=m:=⟨x.toNat,by have:=wid_cases x hw;omega⟩
 rcases wid_cases (m:Int) hw with ⟨h,h1,h2⟩ | ⟨h,h1,h2⟩ | ⟨h,h1,h2⟩ | ⟨h,h1,h2⟩
 ·rw [h];exact rput_1 m w base v M xs hown (by omega) hbase h (by omega)
 ·rw [h];exact rput_2 m w base v M xs hown (by omega) hbase h (by omega)
 ·rw [h];exact rput_4 m w base v M xs hown (by omega) hbase h (by omega)
 ·rw [h];exact rput_8 m w base v M xs hown (by omega) hbase h (by omega)
theorem rPut_no (A:Option Addr) (m c:Nat) (l:List Int) (B2:Nat) (A2:Option Addr) (c2:Nat) (w:World) (hx2:Rd w B2 A2 l.length (ints l)) (hl:l.length<1000000000000000) (hm:¬ allMay l) :
  Calls Try.prog 115 #[.slice A m c,.slice A2 l.length c2] w fun e w'=>e=.returned (.slice none 0 0)∧w=w':=by
 have H:=Lib.hid (rSize_any l B2 A2 c2 w hx2 hl)
 rw [if_neg hm] at H
 clear hx2 hm
 go_enter Try.func115,Try.ntmps115
 go_wp2_with (go_at_call 124;refine H.out.mono ?_;rintro e w' ⟨rfl,rfl⟩)
 go_ret
 exact ⟨rfl,rfl⟩
theorem rPut_ok (A:Option Addr) (m c:Nat) (xs:List Value) (B:Nat) (l:List Int) (B2:Nat) (A2:Option Addr) (c2:Nat) (w:World) (hx:Rd w B A m xs) (hB:B≤w.heap.size) (h1:ones xs)
  (hx2:Rd w B2 A2 l.length (ints l)) (hB2:B2≤w.heap.size) (hl:l.length<1000000000000000) (hm:allMay l) (hz:m+sumW l≤140737488355328) :
  Calls Try.prog 115 #[.slice A m c,.slice A2 l.length c2] w fun e w'=>∃ v',e=.returned v'∧w'.ownsRow w.heap.size 5 1 v' (m+sumW l) (xs ++ encs l)∧Below w.heap.size w w':=by
 have H:=Lib.hid (rSize_any l B2 A2 c2 w hx2 hl)
 rw [if_pos hm] at H
 have HX:=Lib.hid hx
 have H1:=Lib.hid h1
 have HX2:=Lib.hid hx2
 have HM:=Lib.hid hm
 have hsw:Hid (∀ k,sumW (l.take k)≤sumW l):=fun k=>by
  have e:=congrArg sumW (List.take_append_drop k l)
  rw [sumW_app] at e
  omega
 clear hx2 hm hx h1
 obtain ⟨i0,hi,hz0,hz1,hz2⟩:=info_parts infoB
 have HI:=Lib.hid (And.intro hi (And.intro hz0 (And.intro hz1 hz2)))
 clear hi hz0 hz1 hz2
 go_enter Try.func115,Try.ntmps115
 go_wp2_with fail
 refine H.out.mono ?_;rintro e w' ⟨rfl,rfl⟩
 go_wp2_with (at_builtin;refine wpList_app _ rfl _ _ 30 rfl w.heap.size 5 i0 (.int .u8 0) 1 1 Try.underlying30 HI.out.1 HI.out.2.1 HI.out.2.2.1 HI.out.2.2.2 rfl (by decide) (.slice (some ⟨w.heap.size,0,none⟩) 0 0) 0 [] rfl (own_new w #[] 5 1 0 w.heap.size w.heap.size rfl rfl (by unfold maxLen;omega) (Nat.le_refl _)) B A m c xs rfl (by rw [Nat.mul_one];exact HX.out.below ((Below.refl _ _).alloc (Nat.le_refl _) _) hB) H1.out (by unfold maxLen;omega) (by omega) (by simp) ?_)
 intro v1 w1 hown1 hgrow1
 have HB1:Hid (Below w.heap.size w w1):=((Below.refl _ _).alloc (Nat.le_refl _) _).grown hgrow1 (by simp) (fun j hj=>by simp [Value.ownBlock] at hj;omega)
 try simp only [Nat.zero_add,List.nil_append] at hown1
 have HO:=Lib.hid hown1
 clear hown1 hgrow1
 go_wp2_with fail
 go_loopw [5,6] (fun v i wr=>∃ k:Nat,k≤l.length∧i=.int .i64 k∧Hid (wr.ownsRow w.heap.size 5 1 v (m+sumW (l.take k)) (xs ++ encs (l.take k))∧Below w.heap.size w wr)) (fun _ i _=>l.length - (intOf i).toNat)
 case atStart=>exact ⟨0,by omega,rfl,by simpa [sumW,encs] using HO.out,HB1.out⟩
 case round =>
  obtain ⟨k,hk,rfl,HK⟩:=hrel
  by_cases hlt:k<l.length
  ·have hltd:decide (k<l.length)=true:=by simpa using hlt
   have hlti:(k:Int)<(l.length:Int):=by omega
   obtain ⟨b,off,hA,hbn,hcs⟩:=HX2.out.2 (by omega)
   subst hA
   obtain ⟨x,hx⟩:∃ x,Hid (l[k]=x):=⟨l[k],rfl⟩
   have hcell:wr.cell? ⟨b,off+k,none⟩=some (.int .i64 x):=by
    rw [HK.out.2.cell (p:=⟨b,off+k,none⟩) (Nat.lt_of_lt_of_le hbn hB2),hcs k _ (ints_get l k hlt)]
    simp [List.getD,hlt,hx.out]
   have hxw:Hid (wid x≠0):=by rw [← hx.out];exact HM.out _ (List.getElem_mem hlt)
   have hsn:Hid (sumW (l.take (k+1))=sumW (l.take k)+wid x):=by rw [take_snoc' l k hlt,sumW_snoc,hx.out];exact rfl
   have hen:Hid (encs (l.take (k+1))=encs (l.take k) ++ encV x):=by rw [take_snoc' l k hlt,encs_snoc,hx.out];exact rfl
   have HP:=Lib.hid (rput_any x wr w.heap.size u5 (m+sumW (l.take k)) (xs ++ encs (l.take k)) HK.out.1 (by have:=hsw.out (k+1);rw [hsn.out] at this;omega) HK.out.2.size hxw.out)
   clear hcs
   go_wp2_with fail
   refine HP.out.mono ?_;rintro e w2 ⟨v2,rfl,ho2,hb2⟩
   have HN:Hid (w2.ownsRow w.heap.size 5 1 v2 (m+sumW (l.take (k+1))) (xs ++ encs (l.take (k+1)))∧Below w.heap.size w w2):=by
    refine ⟨?_,HK.out.2.trans hb2⟩
    rw [hsn.out,hen.out,← Nat.add_assoc,← List.append_assoc]
    exact ho2
   clear ho2 hb2
   go_wp2
   go_roundw
   case rel=>exact ⟨k+1,by omega,by go_num,HN⟩
   case measure=>simp [intOf];omega
  ·have hltd:decide (k<l.length)=false:=by simpa using hlt
   have hlti:¬ (k:Int)<(l.length:Int):=by omega
   have ht:l.take k=l:=List.take_of_length_le (by omega)
   rw [ht] at HK
   clear ht
   go_wp2
   go_ret
   exact ⟨_,rfl,HK.out.1,HK.out.2⟩
end Go.Proofs.Ytoahkffdoaphlaa.Rv
namespace Go.Proofs.Ytoahkffdoaphlaa
open Go Go.RowKit
/-- What a kind names, in the reference's order: ID, Off, A, B, Fin, Data, Spans. -/
def rnA (k:Int):Array Value:=#[.bool (decide (k=3∨k=4∨k=5∨k=7∨k=10∨k=11)),.bool (decide (k=3∨k=4)),.bool (decide (k=4∨k=5∨k=7∨k=6∨k=12∨k=8)),.bool (decide (k=4)),.bool (decide (k=3∨k=8)),.bool (decide (k=3∨k=9)),.bool (decide (k=2))]
theorem rnames_any (k:Int) (w:World) (h1:1≤k) (h2:k≤12) :
  Calls Try.prog 112 #[.int .i64 k] w fun e w'=>e=.returned (.agg (rnA k))∧Below w.heap.size w w':=by
 have hk:k=1∨k=2∨k=3∨k=4∨k=5∨k=6∨k=7∨k=8∨k=9∨k=10∨k=11∨k=12:=by omega
 clear h1 h2
 have FIN:Hid (∀ (W:World),Below W.heap.size W W):=fun W=>Below.refl _ _
 rcases hk with rfl | rfl | rfl | rfl | rfl | rfl | rfl | rfl | rfl | rfl | rfl | rfl
 all_goals
  go_enter Try.func112,Try.ntmps112
  go_wp2
  refine bodyPost_ret (results_cell_row rfl _ _ w.heap.size 126 _ (0,0) _ rfl (heap_alloc_new _ _) Try.underlying126 rfl (by kernel_rfl)) rfl ?_
  exact ⟨rfl,(Below.refl _ _).alloc (Nat.le_refl _) _⟩
end Go.Proofs.Ytoahkffdoaphlaa
