/- Joined texts. Conditions: as each theorem lists them. -/
import Derived.Test.YtccljifichaieaaDoorJH1
import Derived.Test.YtccljifichaieaaDoorJ3b
import Derived.OwnWalk
import Derived.WalkSpells
import Derived.Maps.AppendAt
import Derived.Below
import Derived.Test.YtccljifichaieaaDoorJ1
import Derived.Laws.BitsAllLaws
import Derived.Laws.MakeOwn
set_option linter.unusedSimpArgs false
set_option linter.unusedVariables false
set_option maxRecDepth 100000
set_option maxHeartbeats 8000000
namespace Go.Proofs.YtccljifichaieaaDoor
open Go Go.RowKit
/-- How many bytes a number takes; 0: it may not be. -/
def wid (n:Int):Nat:=if n<0∨4611686018427387903<n then 0 else if n<64 then 1 else if n<16384 then 2 else if n<1073741824 then 4 else 8
theorem width_any (n:Int) (w:World) :
  Calls Tryd.prog 82 #[.int .i64 n] w fun e w'=>e=.returned (.int .i64 (wid n))∧w=w':=by
 have key:∀ k:Nat,wid n=k→((wid n:Nat):Int)=(k:Int):=fun k h=>by rw [h]
 by_cases h0:n<0
 ·have e:((wid n:Nat):Int)=0:=key 0 (by unfold wid;rw [if_pos (.inl h0)])
  rw [e]
  clear e key
  go_enter Tryd.func82,Tryd.ntmps82
  go_wp2
  go_ret
  exact ⟨rfl,rfl⟩
 ·by_cases h1:4611686018427387903<n
  ·have e:((wid n:Nat):Int)=0:=key 0 (by unfold wid;rw [if_pos (.inr h1)])
   rw [e]
   clear e key
   go_enter Tryd.func82,Tryd.ntmps82
   go_wp2
   go_ret
   exact ⟨rfl,rfl⟩
  ·by_cases h2:n<64
   ·have e:((wid n:Nat):Int)=1:=key 1 (by unfold wid;rw [if_neg (by omega),if_pos h2])
    rw [e]
    clear e key
    go_enter Tryd.func82,Tryd.ntmps82
    go_wp2
    go_ret
    exact ⟨rfl,rfl⟩
   ·by_cases h3:n<16384
    ·have e:((wid n:Nat):Int)=2:=key 2 (by unfold wid;rw [if_neg (by omega),if_neg h2,if_pos h3])
     rw [e]
     clear e key
     go_enter Tryd.func82,Tryd.ntmps82
     go_wp2
     go_ret
     exact ⟨rfl,rfl⟩
    ·by_cases h4:n<1073741824
     ·have e:((wid n:Nat):Int)=4:=key 4 (by unfold wid;rw [if_neg (by omega),if_neg h2,if_neg h3,if_pos h4])
      rw [e]
      clear e key
      go_enter Tryd.func82,Tryd.ntmps82
      go_wp2
      go_ret
      exact ⟨rfl,rfl⟩
     ·have e:((wid n:Nat):Int)=8:=key 8 (by unfold wid;rw [if_neg (by omega),if_neg h2,if_neg h3,if_neg h4])
      rw [e]
      clear e key
      go_enter Tryd.func82,Tryd.ntmps82
      go_wp2
      go_ret
      exact ⟨rfl,rfl⟩
def sumW (l:List Int):Nat:=(l.map wid).sum
theorem wid_le (n:Int):wid n≤8:=by unfold wid;(repeat' split) <;> omega
theorem sumW_le (l:List Int):sumW l≤8 * l.length:=by
 induction l with
 | nil=>simp [sumW]
 | cons n l ih=>have:=wid_le n;simp only [sumW,List.map_cons,List.sum_cons,List.length_cons] at ih ⊢;omega
theorem sumW_snoc (l:List Int) (n:Int):sumW (l ++ [n])=sumW l+wid n:=by simp [sumW]
theorem take_snoc' (l:List Int) (k:Nat) (h:k<l.length):l.take (k+1)=l.take k ++ [l[k]]:=by rw [List.take_succ_eq_append_getElem h]
/-- Every number may be. -/
def allMay (l:List Int):Prop:=∀ n ∈ l,wid n≠0
instance (l:List Int):Decidable (allMay l):=inferInstanceAs (Decidable (∀ n ∈ l,wid n≠0))
theorem size_ok (l:List Int) (b off cap:Nat) (w:World) (hl:l.length<1000000000000000) (hc:∀ j,j<l.length→w.cell? ⟨b,off+j,none⟩=some (.int .i64 (l.getD j 0))) (hm:allMay l) :
  Calls Tryd.prog 65 #[.slice (some ⟨b,off,none⟩) l.length cap] w fun e w'=>e=.returned (.int .i64 (sumW l))∧w=w':=by
 have HC:=Lib.hid hc
 clear hc
 go_enter Tryd.func65,Tryd.ntmps65
 go_wp2
 go_loop [3,9] (fun s i=>∃ k:Nat,k≤l.length∧i=.int .i64 k∧s=.int .i64 (sumW (l.take k))) (fun _ i=>l.length - (intOf i).toNat)
 case atStart=>exact ⟨0,by omega,rfl,rfl⟩
 case round =>
  obtain ⟨k,hk,rfl,rfl⟩:=hrel
  have hs:=sumW_le (l.take k)
  have hs2:(l.take k).length≤k:=List.length_take_le _ _
  by_cases hlt:k<l.length
  ·obtain ⟨x,hx,hcell⟩:∃ x,Hid (l[k]=x)∧w.cell? ⟨b,off+k,none⟩=some (.int .i64 x):=⟨l[k],rfl,by rw [HC.out k hlt];simp [List.getD,hlt]⟩
   have hw:((wid x:Int) == 0)=false:=by
    have:=hm (l[k]) (List.getElem_mem _)
    rw [hx.out] at this
    simpa using this
   have hw8:=wid_le x
   have hsn:Hid (sumW (l.take (k+1))=sumW (l.take k)+wid x):=by rw [take_snoc' l k hlt,sumW_snoc,hx.out];exact rfl
   go_wp2_with (go_at_call 82;refine (width_any _ _).mono ?_;rintro e w' ⟨rfl,rfl⟩)
   go_round
   case rel=>exact ⟨k+1,by omega,by go_num,by rw [hsn.out];go_num⟩
   case measure=>simp [intOf];omega
  ·go_wp2
   go_ret
   exact ⟨ret_int (by rw [List.take_of_length_le (by omega)]),rfl⟩
theorem size_no (l:List Int) (b off cap:Nat) (w:World) (hl:l.length<1000000000000000) (hc:∀ j,j<l.length→w.cell? ⟨b,off+j,none⟩=some (.int .i64 (l.getD j 0))) (hm:¬ allMay l) :
  Calls Tryd.prog 65 #[.slice (some ⟨b,off,none⟩) l.length cap] w fun e w'=>e=.returned (.int .i64 (-1))∧w=w':=by
 have hb:∀ k,k≤l.length→(∀ j,j<k→wid (l.getD j 0)≠0)→k<l.length:=fun k hk h=>by
  rcases Nat.lt_or_ge k l.length with h1 | h1
  ·exact h1
  ·exact absurd (fun n hn=>by
    obtain ⟨j,hj,rfl⟩:=List.mem_iff_getElem.1 hn
    have:=h j (by omega)
    simpa [List.getD,hj] using this) hm
 clear hm
 have HC:=Lib.hid hc
 clear hc
 go_enter Tryd.func65,Tryd.ntmps65
 go_wp2
 go_loop [3,9] (fun s i=>∃ k:Nat,k≤l.length∧i=.int .i64 k∧s=.int .i64 (sumW (l.take k))∧Hid (∀ j,j<k→wid (l.getD j 0)≠0)) (fun _ i=>l.length - (intOf i).toNat)
 case atStart=>exact ⟨0,by omega,rfl,rfl,fun j h=>absurd h (by omega)⟩
 case round =>
  obtain ⟨k,hk,rfl,rfl,H⟩:=hrel
  have hs:=sumW_le (l.take k)
  have hs2:(l.take k).length≤k:=List.length_take_le _ _
  have hlt:=hb k hk H.out
  obtain ⟨x,hx,hcell⟩:∃ x,Hid (l[k]=x)∧w.cell? ⟨b,off+k,none⟩=some (.int .i64 x):=⟨l[k],rfl,by rw [HC.out k hlt];simp [List.getD,hlt]⟩
  have hxd:Hid (l.getD k 0=x):=Lib.hid ((show l.getD k 0=l[k] by simp [List.getD,hlt]).trans hx.out)
  by_cases hz:wid x=0
  ·have hw:((wid x:Int) == 0)=true:=by rw [hz];rfl
   clear hz
   go_wp2_with (go_at_call 82;refine (width_any _ _).mono ?_;rintro e w' ⟨rfl,rfl⟩)
   go_ret
   exact ⟨rfl,rfl⟩
  ·have hw:((wid x:Int) == 0)=false:=by simpa using hz
   have hw8:=wid_le x
   have hsn:Hid (sumW (l.take (k+1))=sumW (l.take k)+wid x):=by rw [take_snoc' l k hlt,sumW_snoc,hx.out];exact rfl
   have H2:Hid (∀ j,j<k+1→wid (l.getD j 0)≠0):=fun j hj=>by
    rcases Nat.lt_or_ge j k with h1 | h1
    ·exact H.out j h1
    ·obtain rfl:j=k:=by omega
     rw [hxd.out];exact hz
   clear hz
   go_wp2_with (go_at_call 82;refine (width_any _ _).mono ?_;rintro e w' ⟨rfl,rfl⟩)
   go_round
   case rel=>exact ⟨k+1,by omega,by go_num,by rw [hsn.out];go_num,H2⟩
   case measure=>simp [intOf];omega
theorem size_nil (w:World):Calls Tryd.prog 65 #[.slice none 0 0] w fun e w'=>e=.returned (.int .i64 0)∧w=w':=by
 go_enter Tryd.func65,Tryd.ntmps65
 go_wp2
 go_loop [3,9] (fun s i=>i=.int .i64 0∧s=.int .i64 0) (fun _ _=>0)
 case atStart=>exact ⟨rfl,rfl⟩
 case round =>
  obtain ⟨rfl,rfl⟩:=hrel
  go_wp2
  go_ret
  exact ⟨rfl,rfl⟩
structure Tabs (w:World):Prop where
 c0:w.cell? ⟨1,0,none⟩=some (.int .u8 0)
 c1:w.cell? ⟨1,1,none⟩=some (.int .u8 1)
 c3:w.cell? ⟨1,3,none⟩=some (.int .u8 2)
 c7:w.cell? ⟨1,7,none⟩=some (.int .u8 3)
theorem tz64 (w:World) (h:Tabs w) (x r i:Int) (hx:(x=1∧r=0∧i=0)∨(x=2∧r=1∧i=1)∨(x=4∧r=2∧i=3)∨(x=8∧r=3∧i=7)) :
  Calls Tryd.prog 90 #[.int .u64 x] w fun e w'=>e=.returned (.int .i64 r)∧w=w':=by
 have h0:=h.c0
 have h1:=h.c1
 have h3:=h.c3
 have h7:=h.c7
 clear h
 have e1:IntKind.u64.wrap (bits .and .u64 1 (IntKind.u64.wrap (-1)) * 285870213051353865) / 288230376151711744=0:=by kernel_rfl
 have e2:IntKind.u64.wrap (bits .and .u64 2 (IntKind.u64.wrap (-2)) * 285870213051353865) / 288230376151711744=1:=by kernel_rfl
 have e4:IntKind.u64.wrap (bits .and .u64 4 (IntKind.u64.wrap (-4)) * 285870213051353865) / 288230376151711744=3:=by kernel_rfl
 have e8:IntKind.u64.wrap (bits .and .u64 8 (IntKind.u64.wrap (-8)) * 285870213051353865) / 288230376151711744=7:=by kernel_rfl
 rcases hx with ⟨rfl,rfl,rfl⟩ | ⟨rfl,rfl,rfl⟩ | ⟨rfl,rfl,rfl⟩ | ⟨rfl,rfl,rfl⟩
 all_goals
  go_enter Tryd.func90,Tryd.ntmps90
  go_wp2
  go_ret
  exact ⟨rfl,rfl⟩
theorem tz (w:World) (h:Tabs w) (x r i:Int) (hx:(x=1∧r=0∧i=0)∨(x=2∧r=1∧i=1)∨(x=4∧r=2∧i=3)∨(x=8∧r=3∧i=7)) :
  Calls Tryd.prog 83 #[.int .u64 x] w fun e w'=>e=.returned (.int .i64 r)∧w=w':=by
 have H:=Lib.hid (tz64 w h x r i hx)
 clear hx h
 go_enter Tryd.func83,Tryd.ntmps83
 go_wp2_with (go_at_call 90;refine H.out.mono ?_;rintro e w' ⟨rfl,rfl⟩)
 go_ret
 exact ⟨rfl,rfl⟩
/-- The number that is laid: the length's mark in front. -/
def laidN (n:Int):Nat:=match wid n with
 | 1=>n.toNat
 | 2=>n.toNat+2 ^ 14
 | 4=>n.toNat+2 ^ 31
 | _=>n.toNat+3 * 2 ^ 62
/-- The k-th byte from the end of a number's bytes. -/
def byt (L k:Nat):Int:=(L:Int) / 2 ^ (8 * k) % 256
def encL (W L:Nat):List Value:=(List.range W).map fun j=>.int .u8 (byt L (W - 1 - j))
theorem encL_snoc (W L k:Nat) (h:k+1≤W) (xs:List Value) :
  (xs ++ (List.range (W - (k+1))).map fun j=>Value.int .u8 (byt L (W - 1 - j))) ++ [.int .u8 (byt L k)]=xs ++ (List.range (W - k)).map fun j=>Value.int .u8 (byt L (W - 1 - j)):=by
 rw [show W - k=(W - (k+1))+1 by omega,List.range_succ,List.map_append,List.append_assoc]
 congr 3
 simp only [List.map_cons,List.map_nil]
 rw [show W - 1 - (W - (k+1))=k by omega]
theorem lay_1 (n:Int) (L:Nat) (w:World) (h:Tabs w) (base:Nat) (v:Value) (m:Nat) (xs:List Value) (hown:w.ownsRow base 5 1 v m xs) (hm:m+1≤140737488355328) (hbase:base≤w.heap.size)
  (hw:((wid n:Nat):Int)=1) (hL:bits .or .u64 (IntKind.u64.wrap n) 0=(L:Int)) :
  Calls Tryd.prog 66 #[v,.int .i64 n] w fun e w'=>∃ v',e=.returned v'∧w'.ownsRow base 5 1 v' (m+1) (xs ++ encL 1 L)∧Below base w w':=by
 have H:=Lib.hid (tz w h 1 0 0 (.inl ⟨rfl,rfl,rfl⟩))
 have HO:=Lib.hid hown
 clear hown h
 obtain ⟨i0,hi,hz0,hz1,hz2⟩:=info_parts infoB
 have HI:=Lib.hid (And.intro hi (And.intro hz0 (And.intro hz1 hz2)))
 clear hi hz0 hz1 hz2
 go_enter Tryd.func66,Tryd.ntmps66
 go_wp2_with (first | (go_at_call 82;refine (width_any _ _).mono ?_;rintro e w' ⟨rfl,rfl⟩) | (go_at_call 83;refine H.out.mono ?_;rintro e w' ⟨rfl,rfl⟩))
 go_loopw [0,8] (fun v i wr=>∃ r:Nat,r≤1∧i=.int .i64 ((r:Int) - 1)∧Hid (wr.ownsRow base 5 1 v (m+(1 - r)) (xs ++ ((List.range (1 - r)).map fun j=>Value.int .u8 (byt L (1 - 1 - j))))∧Below base w wr)) (fun _ i _=>(intOf i+1).toNat)
 case atStart=>exact ⟨1,by omega,by go_num,by simpa using HO.out,Below.refl _ _⟩
 case round =>
  obtain ⟨r,hr,rfl,HR⟩:=hrel
  rcases Nat.eq_zero_or_pos r with h0 | h0
  ·subst h0
   go_wp2
   go_ret
   exact ⟨_,rfl,by simpa [encL] using HR.out.1,HR.out.2⟩
  ·obtain ⟨k,rfl⟩:∃ k,r=k+1:=⟨r - 1,by omega⟩
   have hk:(0:Int)≤k:=by omega
   obtain ⟨M,X,HE,HM,HR⟩:∃ M X,Hid (M=m+(1 - (k+1))∧X=xs ++ ((List.range (1 - (k+1))).map fun j=>Value.int .u8 (byt L (1 - 1 - j))))∧M+1≤140737488355328∧Hid (wr.ownsRow base 5 1 u0 M X∧Below base w wr):=⟨_,_,⟨rfl,rfl⟩,by omega,HR.out⟩
   go_wp2_with (at_builtin;refine wpList_append_own _ rfl _ _ 24 rfl base 5 i0 (.int .u8 0) 1 1 Tryd.underlying24 HI.out.1 HI.out.2.1 HI.out.2.2.1 HI.out.2.2.2 rfl (by decide) _ _ _ rfl (HR.out.1.alloc _) ⟨wr.heap.size,0,none⟩ 1 1 [.int .u8 ((L:Int) / 2 ^ (8 * k) % 256)] rfl rfl ?c1 ?c2 ?c3 ?c4 ?c5 ?_)
   case c1=>exact cell_one_new _ _ _
   case c2=>simp [Value.oneCell']
   case c3=>unfold maxLen;omega
   case c4=>omega
   case c5=>have:=HR.out.2.size;simp;omega
   intro v1 w1 hown1 hgrow1 _
   have HN:Hid (w1.ownsRow base 5 1 v1 (m+(1 - k)) (xs ++ ((List.range (1 - k)).map fun j=>Value.int .u8 (byt L (1 - 1 - j))))∧Below base w w1):=by
    have e:=encL_snoc 1 L k hr xs
    have e2:M+1=m+(1 - k):=by have:=HE.out.1;omega
    rw [e2,HE.out.2] at hown1
    refine ⟨?_,?_⟩
    ·rw [← e];exact hown1
    ·have hsz:=HR.out.2.size
     exact (HR.out.2.alloc (by omega) _).grown hgrow1 (by simp;omega) (fun g hg=>(HR.out.1.lt g hg).1)
   clear hown1 hgrow1
   go_wp2
   go_roundw
   case rel=>exact ⟨k,by omega,by go_num,HN⟩
   case measure=>simp [intOf]
theorem lay_2 (n:Int) (L:Nat) (w:World) (h:Tabs w) (base:Nat) (v:Value) (m:Nat) (xs:List Value) (hown:w.ownsRow base 5 1 v m xs) (hm:m+2≤140737488355328) (hbase:base≤w.heap.size)
  (hw:((wid n:Nat):Int)=2) (hL:bits .or .u64 (IntKind.u64.wrap n) 16384=(L:Int)) :
  Calls Tryd.prog 66 #[v,.int .i64 n] w fun e w'=>∃ v',e=.returned v'∧w'.ownsRow base 5 1 v' (m+2) (xs ++ encL 2 L)∧Below base w w':=by
 have H:=Lib.hid (tz w h 2 1 1 (.inr (.inl ⟨rfl,rfl,rfl⟩)))
 have HO:=Lib.hid hown
 clear hown h
 obtain ⟨i0,hi,hz0,hz1,hz2⟩:=info_parts infoB
 have HI:=Lib.hid (And.intro hi (And.intro hz0 (And.intro hz1 hz2)))
 clear hi hz0 hz1 hz2
 go_enter Tryd.func66,Tryd.ntmps66
 go_wp2_with (first | (go_at_call 82;refine (width_any _ _).mono ?_;rintro e w' ⟨rfl,rfl⟩) | (go_at_call 83;refine H.out.mono ?_;rintro e w' ⟨rfl,rfl⟩))
 go_loopw [0,8] (fun v i wr=>∃ r:Nat,r≤2∧i=.int .i64 ((r:Int) - 1)∧Hid (wr.ownsRow base 5 1 v (m+(2 - r)) (xs ++ ((List.range (2 - r)).map fun j=>Value.int .u8 (byt L (2 - 1 - j))))∧Below base w wr)) (fun _ i _=>(intOf i+1).toNat)
 case atStart=>exact ⟨2,by omega,by go_num,by simpa using HO.out,Below.refl _ _⟩
 case round =>
  obtain ⟨r,hr,rfl,HR⟩:=hrel
  rcases Nat.eq_zero_or_pos r with h0 | h0
  ·subst h0
   go_wp2
   go_ret
   exact ⟨_,rfl,by simpa [encL] using HR.out.1,HR.out.2⟩
  ·obtain ⟨k,rfl⟩:∃ k,r=k+1:=⟨r - 1,by omega⟩
   have hk:(0:Int)≤k:=by omega
   obtain ⟨M,X,HE,HM,HR⟩:∃ M X,Hid (M=m+(2 - (k+1))∧X=xs ++ ((List.range (2 - (k+1))).map fun j=>Value.int .u8 (byt L (2 - 1 - j))))∧M+1≤140737488355328∧Hid (wr.ownsRow base 5 1 u0 M X∧Below base w wr):=⟨_,_,⟨rfl,rfl⟩,by omega,HR.out⟩
   go_wp2_with (at_builtin;refine wpList_append_own _ rfl _ _ 24 rfl base 5 i0 (.int .u8 0) 1 1 Tryd.underlying24 HI.out.1 HI.out.2.1 HI.out.2.2.1 HI.out.2.2.2 rfl (by decide) _ _ _ rfl (HR.out.1.alloc _) ⟨wr.heap.size,0,none⟩ 1 1 [.int .u8 ((L:Int) / 2 ^ (8 * k) % 256)] rfl rfl ?c1 ?c2 ?c3 ?c4 ?c5 ?_)
   case c1=>exact cell_one_new _ _ _
   case c2=>simp [Value.oneCell']
   case c3=>unfold maxLen;omega
   case c4=>omega
   case c5=>have:=HR.out.2.size;simp;omega
   intro v1 w1 hown1 hgrow1 _
   have HN:Hid (w1.ownsRow base 5 1 v1 (m+(2 - k)) (xs ++ ((List.range (2 - k)).map fun j=>Value.int .u8 (byt L (2 - 1 - j))))∧Below base w w1):=by
    have e:=encL_snoc 2 L k hr xs
    have e2:M+1=m+(2 - k):=by have:=HE.out.1;omega
    rw [e2,HE.out.2] at hown1
    refine ⟨?_,?_⟩
    ·rw [← e];exact hown1
    ·have hsz:=HR.out.2.size
     exact (HR.out.2.alloc (by omega) _).grown hgrow1 (by simp;omega) (fun g hg=>(HR.out.1.lt g hg).1)
   clear hown1 hgrow1
   go_wp2
   go_roundw
   case rel=>exact ⟨k,by omega,by go_num,HN⟩
   case measure=>simp [intOf]
theorem lay_4 (n:Int) (L:Nat) (w:World) (h:Tabs w) (base:Nat) (v:Value) (m:Nat) (xs:List Value) (hown:w.ownsRow base 5 1 v m xs) (hm:m+4≤140737488355328) (hbase:base≤w.heap.size)
  (hw:((wid n:Nat):Int)=4) (hL:bits .or .u64 (IntKind.u64.wrap n) 2147483648=(L:Int)) :
  Calls Tryd.prog 66 #[v,.int .i64 n] w fun e w'=>∃ v',e=.returned v'∧w'.ownsRow base 5 1 v' (m+4) (xs ++ encL 4 L)∧Below base w w':=by
 have H:=Lib.hid (tz w h 4 2 3 (.inr (.inr (.inl ⟨rfl,rfl,rfl⟩))))
 have HO:=Lib.hid hown
 clear hown h
 obtain ⟨i0,hi,hz0,hz1,hz2⟩:=info_parts infoB
 have HI:=Lib.hid (And.intro hi (And.intro hz0 (And.intro hz1 hz2)))
 clear hi hz0 hz1 hz2
 go_enter Tryd.func66,Tryd.ntmps66
 go_wp2_with (first | (go_at_call 82;refine (width_any _ _).mono ?_;rintro e w' ⟨rfl,rfl⟩) | (go_at_call 83;refine H.out.mono ?_;rintro e w' ⟨rfl,rfl⟩))
 go_loopw [0,8] (fun v i wr=>∃ r:Nat,r≤4∧i=.int .i64 ((r:Int) - 1)∧Hid (wr.ownsRow base 5 1 v (m+(4 - r)) (xs ++ ((List.range (4 - r)).map fun j=>Value.int .u8 (byt L (4 - 1 - j))))∧Below base w wr)) (fun _ i _=>(intOf i+1).toNat)
 case atStart=>exact ⟨4,by omega,by go_num,by simpa using HO.out,Below.refl _ _⟩
 case round =>
  obtain ⟨r,hr,rfl,HR⟩:=hrel
  rcases Nat.eq_zero_or_pos r with h0 | h0
  ·subst h0
   go_wp2
   go_ret
   exact ⟨_,rfl,by simpa [encL] using HR.out.1,HR.out.2⟩
  ·obtain ⟨k,rfl⟩:∃ k,r=k+1:=⟨r - 1,by omega⟩
   have hk:(0:Int)≤k:=by omega
   obtain ⟨M,X,HE,HM,HR⟩:∃ M X,Hid (M=m+(4 - (k+1))∧X=xs ++ ((List.range (4 - (k+1))).map fun j=>Value.int .u8 (byt L (4 - 1 - j))))∧M+1≤140737488355328∧Hid (wr.ownsRow base 5 1 u0 M X∧Below base w wr):=⟨_,_,⟨rfl,rfl⟩,by omega,HR.out⟩
   go_wp2_with (at_builtin;refine wpList_append_own _ rfl _ _ 24 rfl base 5 i0 (.int .u8 0) 1 1 Tryd.underlying24 HI.out.1 HI.out.2.1 HI.out.2.2.1 HI.out.2.2.2 rfl (by decide) _ _ _ rfl (HR.out.1.alloc _) ⟨wr.heap.size,0,none⟩ 1 1 [.int .u8 ((L:Int) / 2 ^ (8 * k) % 256)] rfl rfl ?c1 ?c2 ?c3 ?c4 ?c5 ?_)
   case c1=>exact cell_one_new _ _ _
   case c2=>simp [Value.oneCell']
   case c3=>unfold maxLen;omega
   case c4=>omega
   case c5=>have:=HR.out.2.size;simp;omega
   intro v1 w1 hown1 hgrow1 _
   have HN:Hid (w1.ownsRow base 5 1 v1 (m+(4 - k)) (xs ++ ((List.range (4 - k)).map fun j=>Value.int .u8 (byt L (4 - 1 - j))))∧Below base w w1):=by
    have e:=encL_snoc 4 L k hr xs
    have e2:M+1=m+(4 - k):=by have:=HE.out.1;omega
    rw [e2,HE.out.2] at hown1
    refine ⟨?_,?_⟩
    ·rw [← e];exact hown1
    ·have hsz:=HR.out.2.size
     exact (HR.out.2.alloc (by omega) _).grown hgrow1 (by simp;omega) (fun g hg=>(HR.out.1.lt g hg).1)
   clear hown1 hgrow1
   go_wp2
   go_roundw
   case rel=>exact ⟨k,by omega,by go_num,HN⟩
   case measure=>simp [intOf]
theorem lay_8 (n:Int) (L:Nat) (w:World) (h:Tabs w) (base:Nat) (v:Value) (m:Nat) (xs:List Value) (hown:w.ownsRow base 5 1 v m xs) (hm:m+8≤140737488355328) (hbase:base≤w.heap.size)
  (hw:((wid n:Nat):Int)=8) (hL:bits .or .u64 (IntKind.u64.wrap n) 13835058055282163712=(L:Int)) :
  Calls Tryd.prog 66 #[v,.int .i64 n] w fun e w'=>∃ v',e=.returned v'∧w'.ownsRow base 5 1 v' (m+8) (xs ++ encL 8 L)∧Below base w w':=by
 have H:=Lib.hid (tz w h 8 3 7 (.inr (.inr (.inr ⟨rfl,rfl,rfl⟩))))
 have HO:=Lib.hid hown
 clear hown h
 obtain ⟨i0,hi,hz0,hz1,hz2⟩:=info_parts infoB
 have HI:=Lib.hid (And.intro hi (And.intro hz0 (And.intro hz1 hz2)))
 clear hi hz0 hz1 hz2
 go_enter Tryd.func66,Tryd.ntmps66
 go_wp2_with (first | (go_at_call 82;refine (width_any _ _).mono ?_;rintro e w' ⟨rfl,rfl⟩) | (go_at_call 83;refine H.out.mono ?_;rintro e w' ⟨rfl,rfl⟩))
 go_loopw [0,8] (fun v i wr=>∃ r:Nat,r≤8∧i=.int .i64 ((r:Int) - 1)∧Hid (wr.ownsRow base 5 1 v (m+(8 - r)) (xs ++ ((List.range (8 - r)).map fun j=>Value.int .u8 (byt L (8 - 1 - j))))∧Below base w wr)) (fun _ i _=>(intOf i+1).toNat)
 case atStart=>exact ⟨8,by omega,by go_num,by simpa using HO.out,Below.refl _ _⟩
 case round =>
  obtain ⟨r,hr,rfl,HR⟩:=hrel
  rcases Nat.eq_zero_or_pos r with h0 | h0
  ·subst h0
   go_wp2
   go_ret
   exact ⟨_,rfl,by simpa [encL] using HR.out.1,HR.out.2⟩
  ·obtain ⟨k,rfl⟩:∃ k,r=k+1:=⟨r - 1,by omega⟩
   have hk:(0:Int)≤k:=by omega
   obtain ⟨M,X,HE,HM,HR⟩:∃ M X,Hid (M=m+(8 - (k+1))∧X=xs ++ ((List.range (8 - (k+1))).map fun j=>Value.int .u8 (byt L (8 - 1 - j))))∧M+1≤140737488355328∧Hid (wr.ownsRow base 5 1 u0 M X∧Below base w wr):=⟨_,_,⟨rfl,rfl⟩,by omega,HR.out⟩
   go_wp2_with (at_builtin;refine wpList_append_own _ rfl _ _ 24 rfl base 5 i0 (.int .u8 0) 1 1 Tryd.underlying24 HI.out.1 HI.out.2.1 HI.out.2.2.1 HI.out.2.2.2 rfl (by decide) _ _ _ rfl (HR.out.1.alloc _) ⟨wr.heap.size,0,none⟩ 1 1 [.int .u8 ((L:Int) / 2 ^ (8 * k) % 256)] rfl rfl ?c1 ?c2 ?c3 ?c4 ?c5 ?_)
   case c1=>exact cell_one_new _ _ _
   case c2=>simp [Value.oneCell']
   case c3=>unfold maxLen;omega
   case c4=>omega
   case c5=>have:=HR.out.2.size;simp;omega
   intro v1 w1 hown1 hgrow1 _
   have HN:Hid (w1.ownsRow base 5 1 v1 (m+(8 - k)) (xs ++ ((List.range (8 - k)).map fun j=>Value.int .u8 (byt L (8 - 1 - j))))∧Below base w w1):=by
    have e:=encL_snoc 8 L k hr xs
    have e2:M+1=m+(8 - k):=by have:=HE.out.1;omega
    rw [e2,HE.out.2] at hown1
    refine ⟨?_,?_⟩
    ·rw [← e];exact hown1
    ·have hsz:=HR.out.2.size
     exact (HR.out.2.alloc (by omega) _).grown hgrow1 (by simp;omega) (fun g hg=>(HR.out.1.lt g hg).1)
   clear hown1 hgrow1
   go_wp2
   go_roundw
   case rel=>exact ⟨k,by omega,by go_num,HN⟩
   case measure=>simp [intOf]
/-- A number's bytes. -/
def encV (n:Int):List Value:=encL (wid n) (laidN n)
theorem encV_len (n:Int):(encV n).length=wid n:=by simp [encV,encL]
theorem or_add (n s k:Nat) (h:n<2 ^ k):n ||| s * 2 ^ k=n+s * 2 ^ k:=by
 have:=Nat.shiftLeft_add_eq_or_of_lt h s
 rw [Nat.shiftLeft_eq] at this
 rw [Nat.or_comm,← this,Nat.add_comm]
theorem wrap_u64_in (n:Int) (h:0≤n) (h2:n<18446744073709551616):IntKind.u64.wrap n=n:=by
 have:IntKind.u64.wrap n=n % 18446744073709551616:=rfl
 rw [this];omega
theorem wid_cases (n:Int) (h:wid n≠0):(wid n=1∧0≤n∧n<64)∨(wid n=2∧64≤n∧n<16384)∨(wid n=4∧16384≤n∧n<1073741824)∨(wid n=8∧1073741824≤n∧n≤4611686018427387903):=by
 unfold wid at h ⊢
 split at h
 ·exact absurd rfl h
 ·rename_i h0
  rw [if_neg h0]
  split
  ·left;exact ⟨rfl,by omega,by assumption⟩
  ·split
   ·right;left;exact ⟨rfl,by omega,by assumption⟩
   ·split
    ·right;right;left;exact ⟨rfl,by omega,by assumption⟩
    ·right;right;right;exact ⟨rfl,by omega,by omega⟩
theorem or_of (n:Int) (k s:Nat) (h0:0≤n) (h:n.toNat<2 ^ k) (h2:n<18446744073709551616) (h3:s * 2 ^ k<18446744073709551616):bits .or .u64 (IntKind.u64.wrap n) ((s * 2 ^ k:Nat):Int)=((n.toNat+s * 2 ^ k:Nat):Int):=by
 rw [wrap_u64_in n h0 h2]
 obtain ⟨m,rfl⟩:=Int.eq_ofNat_of_zero_le h0
 rw [u64_or_nat m _ (by omega) h3]
 simp only [Int.toNat_natCast] at h ⊢
 rw [or_add m s k h]
theorem lay_any (n:Int) (w:World) (h:Tabs w) (base:Nat) (v:Value) (m:Nat) (xs:List Value) (hown:w.ownsRow base 5 1 v m xs) (hm:m+wid n≤140737488355328) (hbase:base≤w.heap.size) (hn:wid n≠0) :
  Calls Tryd.prog 66 #[v,.int .i64 n] w fun e w'=>∃ v',e=.returned v'∧w'.ownsRow base 5 1 v' (m+wid n) (xs ++ encV n)∧Below base w w':=by
 rcases wid_cases n hn with ⟨hw,h0,h1⟩ | ⟨hw,h0,h1⟩ | ⟨hw,h0,h1⟩ | ⟨hw,h0,h1⟩
 ·have:=lay_1 n (laidN n) w h base v m xs hown (by omega) hbase (by rw [hw];rfl) (by
   have e:=or_of n 6 0 h0 (by omega) (by omega) (by decide)
   simp only [laidN,hw];simpa using e)
  simpa only [encV,hw] using this
 ·have:=lay_2 n (laidN n) w h base v m xs hown (by omega) hbase (by rw [hw];rfl) (by
   have e:=or_of n 14 1 (by omega) (by omega) (by omega) (by decide)
   simp only [laidN,hw];simpa using e)
  simpa only [encV,hw] using this
 ·have:=lay_4 n (laidN n) w h base v m xs hown (by omega) hbase (by rw [hw];rfl) (by
   have e:=or_of n 30 2 (by omega) (by omega) (by omega) (by decide)
   simp only [laidN,hw];simpa using e)
  simpa only [encV,hw] using this
 ·have:=lay_8 n (laidN n) w h base v m xs hown (by omega) hbase (by rw [hw];rfl) (by
   have e:=or_of n 62 3 (by omega) (by omega) (by omega) (by decide)
   simp only [laidN,hw];simpa using e)
  simpa only [encV,hw] using this
theorem ones_enc (n:Int):ones (encV n):=fun u hu=>by
 unfold encV encL at hu
 rw [List.mem_map] at hu
 obtain ⟨j,_,rfl⟩:=hu
 rfl
theorem fresh_any (A:Option Addr) (m c:Nat) (xs:List Value) (B:Nat) (w:World) (hx:Rd w B A m xs) (hB:B≤w.heap.size) (h1:ones xs) (hm:m≤140737488355328) :
  Calls Tryd.prog 93 #[.slice A m c] w fun e w'=>∃ v',e=.returned v'∧w'.ownsRow w.heap.size 5 1 v' m xs∧Below w.heap.size w w':=by
 have HX:=Lib.hid hx
 have H1:=Lib.hid h1
 clear hx h1
 obtain ⟨i0,hi,hz0,hz1,hz2⟩:=info_parts infoB
 have HI:=Lib.hid (And.intro hi (And.intro hz0 (And.intro hz1 hz2)))
 have hmk:=fun W=>run_make (P:=Tryd.prog) W 24 5 i0 (.int .u8 0) Tryd.underlying24 hi hz0 .i64 .i64 0 m (by omega) (by omega) (by rw [hz2];omega) (by omega)
 simp only [hz1,Int.toNat_natCast,Int.toNat_zero,Nat.mul_one] at hmk
 clear hi hz0 hz1 hz2
 have HS:Hid ((madeCells (Value.int .u8 0).cells m).size=m):=size_madeCells _ _
 go_enter Tryd.func93,Tryd.ntmps93
 go_wp2_with (at_builtin;refine wpList_app _ rfl _ _ 24 rfl w.heap.size 5 i0 (.int .u8 0) 1 1 Tryd.underlying24 HI.out.1 HI.out.2.1 HI.out.2.2.1 HI.out.2.2.2 rfl (by decide) _ 0 [] rfl (World.ownsRow_made _ _ m (Nat.le_refl _) ?c1 ?c2) B A m c xs rfl ?c3 H1.out ?c4 ?c5 ?c6 ?_)
 case c1=>unfold maxLen;omega
 case c2=>rw [size_madeCells,Nat.mul_one]
 case c3=>rw [Nat.mul_one];exact HX.out.below ((Below.refl _ _).alloc hB _) (Nat.le_refl _)
 case c4=>unfold maxLen;omega
 case c5=>omega
 case c6=>simp
 intro v1 w1 hown1 hgrow1
 have HN:Hid (w1.ownsRow w.heap.size 5 1 v1 m xs∧Below w.heap.size w w1):=by
  exact ⟨hown1,((Below.refl _ _).alloc (Nat.le_refl _) _).grown hgrow1 (by simp) (fun g hg=>by simp [Value.ownBlock] at hg;omega)⟩
 clear hown1 hgrow1
 go_wp2
 go_ret
 exact ⟨_,rfl,HN.out⟩
/-- What a call of Put with numbers that may be lays. -/
def encs (l:List Int):List Value:=l.flatMap encV
theorem encs_len (l:List Int):(encs l).length=sumW l:=by
 induction l with
 | nil=>rfl
 | cons n l ih=>simp only [encs,List.flatMap_cons,List.length_append,encV_len,sumW,List.map_cons,List.sum_cons] at ih ⊢;omega
theorem encs_snoc (l:List Int) (n:Int):encs (l ++ [n])=encs l ++ encV n:=by simp [encs]
theorem ones_encs (l:List Int):ones (encs l):=fun u hu=>by
 unfold encs at hu
 rw [List.mem_flatMap] at hu
 obtain ⟨n,_,h⟩:=hu
 exact ones_enc n u h
/-- Size of whatever list. -/
theorem size_any (l:List Int) (B:Nat) (A:Option Addr) (cap:Nat) (w:World) (hA:l.length=0→cap=0∧A=none∨∃ b off,A=some ⟨b,off,none⟩) (hx:Rd w B A l.length (ints l)) (hl:l.length<1000000000000000) :
  Calls Tryd.prog 65 #[.slice A l.length cap] w fun e w'=>e=.returned (.int .i64 (if allMay l then (sumW l:Int) else -1))∧w=w':=by
 have key:(∃ b off,A=some ⟨b,off,none⟩∧∀ j,j<l.length→w.cell? ⟨b,off+j,none⟩=some (.int .i64 (l.getD j 0)))→Calls Tryd.prog 65 #[.slice A l.length cap] w fun e w'=>e=.returned (.int .i64 (if allMay l then (sumW l:Int) else -1))∧w=w':=by
  rintro ⟨b,off,rfl,hc⟩
  by_cases hm:allMay l
  ·rw [if_pos hm];exact size_ok l b off cap w hl hc hm
  ·rw [if_neg hm];exact size_no l b off cap w hl hc hm
 rcases Nat.eq_zero_or_pos l.length with h0 | h0
 ·rcases hA h0 with ⟨rfl,rfl⟩ | ⟨b,off,rfl⟩
  ·have:l=[]:=List.eq_nil_of_length_eq_zero h0
   subst this
   rw [if_pos (show allMay [] from fun n hn=>by cases hn)]
   exact size_nil w
  ·exact key ⟨b,off,rfl,fun j hj=>by omega⟩
 ·obtain ⟨b,off,rfl,_,hc⟩:=hx.2 h0
  exact key ⟨b,off,rfl,fun j hj=>hc j _ (ints_get l j hj)⟩
theorem Tabs.below {w w':World} {B:Nat} (h:Tabs w) (hb:Below B w w') (hB:1<B):Tabs w' :=
 ⟨(hb.cell (p:=⟨1,0,none⟩) hB).trans h.c0,(hb.cell (p:=⟨1,1,none⟩) hB).trans h.c1,(hb.cell (p:=⟨1,3,none⟩) hB).trans h.c3,(hb.cell (p:=⟨1,7,none⟩) hB).trans h.c7⟩
theorem Tabs.lt {w:World} (h:Tabs w):1<w.heap.size:=World.block_lt_of_cell? w _ h.c0
theorem sumW_app (a b:List Int):sumW (a ++ b)=sumW a+sumW b:=by simp [sumW]
theorem put_ok (A:Option Addr) (m c:Nat) (xs:List Value) (B:Nat) (l:List Int) (B2:Nat) (A2:Option Addr) (c2:Nat) (w:World) (ht:Tabs w) (hx:Rd w B A m xs) (hB:B≤w.heap.size) (h1:ones xs)
  (hx2:Rd w B2 A2 l.length (ints l)) (hB2:B2≤w.heap.size) (hA2:okA A2 l.length c2) (hl:l.length<1000000000000000) (hm:allMay l) (hz:m+sumW l≤140737488355328) :
  Calls Tryd.prog 43 #[.slice A m c,.slice A2 l.length c2] w fun e w'=>∃ v',e=.returned v'∧w'.ownsRow w.heap.size 5 1 v' (m+sumW l) (xs ++ encs l)∧Below w.heap.size w w':=by
 have H:=Lib.hid (size_any l B2 A2 c2 w hA2 hx2 hl)
 rw [if_pos hm] at H
 have HT:=Lib.hid ht
 have HX:=Lib.hid hx
 have H1:=Lib.hid h1
 have HX2:=Lib.hid hx2
 have HM:=Lib.hid hm
 have hsw:Hid (∀ k,sumW (l.take k)≤sumW l):=fun k=>by
  have e:=congrArg sumW (List.take_append_drop k l)
  rw [sumW_app] at e
  omega
 clear hx2 hm ht hx h1
 obtain ⟨i0,hi,hz0,hz1,hz2⟩:=info_parts infoB
 have HI:=Lib.hid (And.intro hi (And.intro hz0 (And.intro hz1 hz2)))
 obtain ⟨N,hN,hN2⟩:∃ N:Nat,((m:Int)+(sumW l:Int)=(N:Int))∧N≤140737488355328:=⟨m+sumW l,by omega,by omega⟩
 have hmk:=fun W=>run_make (P:=Tryd.prog) W 24 5 i0 (.int .u8 0) Tryd.underlying24 hi hz0 .i64 .i64 0 N (by omega) (by omega) (by rw [hz2];omega) (by omega)
 simp only [hz1,Int.toNat_natCast,Int.toNat_zero,Nat.mul_one] at hmk
 clear hi hz0 hz1 hz2
 go_enter Tryd.func43,Tryd.ntmps43
 go_wp2_with (first | (go_at_call 65;refine H.out.mono ?_;rintro e w' ⟨rfl,rfl⟩) | (at_builtin;refine wpList_app _ rfl _ _ 24 rfl w.heap.size 5 i0 (.int .u8 0) 1 1 Tryd.underlying24 HI.out.1 HI.out.2.1 HI.out.2.2.1 HI.out.2.2.2 rfl (by decide) _ 0 [] rfl (World.ownsRow_made _ _ N (Nat.le_refl _) ?c1 ?c2) B A m c xs rfl ?c3 H1.out ?c4 ?c5 ?c6 ?_))
 case c1=>unfold maxLen;omega
 case c2=>rw [size_madeCells,Nat.mul_one]
 case c3=>rw [Nat.mul_one];exact HX.out.below ((Below.refl _ _).alloc hB _) (Nat.le_refl _)
 case c4=>unfold maxLen;omega
 case c5=>omega
 case c6=>simp
 intro v1 w1 hown1 hgrow1
 have HN:Hid (w1.ownsRow w.heap.size 5 1 v1 m xs∧Below w.heap.size w w1) :=
  ⟨hown1,((Below.refl _ _).alloc (Nat.le_refl _) _).grown hgrow1 (by simp) (fun g hg=>by simp [Value.ownBlock] at hg;omega)⟩
 clear hown1 hgrow1
 go_wp2
 go_loopw [6,22] (fun v i wr=>∃ k:Nat,k≤l.length∧i=.int .i64 k∧Hid (wr.ownsRow w.heap.size 5 1 v (m+sumW (l.take k)) (xs ++ encs (l.take k))∧Below w.heap.size w wr)) (fun _ i _=>l.length - (intOf i).toNat)
 case atStart =>
  refine ⟨0,by omega,rfl,?_⟩
  have e1:sumW (l.take 0)=0:=rfl
  have e2:encs (l.take 0)=[]:=rfl
  rw [e1,e2,Nat.add_zero,List.append_nil]
  exact HN
 case round =>
  obtain ⟨k,hk,rfl,HR⟩:=hrel
  by_cases hlt:k<l.length
  ·have hpos:0<l.length:=by omega
   obtain ⟨b2,off2,hA2e,hb2,hc2⟩:=HX2.out.2 hpos
   have HC2:=Lib.hid hc2
   clear hc2
   subst hA2e
   obtain ⟨x,hx,hcell⟩:∃ x,Hid (l[k]=x)∧wr.cell? ⟨b2,off2+k,none⟩=some (.int .i64 x):=⟨l[k],rfl,by
    rw [HR.out.2.cell (p:=⟨b2,off2+k,none⟩) (show b2<w.heap.size by omega)]
    exact HC2.out k _ (by simp [ints,hlt])⟩
   obtain ⟨M,X,HE,HO⟩:∃ M X,Hid (M=m+sumW (l.take k)∧X=xs ++ encs (l.take k))∧Hid (wr.ownsRow w.heap.size 5 1 u6 M X):=⟨_,_,⟨rfl,rfl⟩,HR.out.1⟩
   have hwx:Hid (wid x≠0):=by have:=HM.out _ (List.getElem_mem hlt);rw [hx.out] at this;exact this
   have hMx:Hid (M+wid x≤140737488355328):=by
    have h1:=hsw.out (k+1)
    rw [take_snoc' l k hlt,sumW_snoc,hx.out] at h1
    have:=HE.out.1
    show _≤_
    omega
   have HL:=Lib.hid (lay_any x wr (HT.out.below HR.out.2 HT.out.lt) w.heap.size u6 M X HO.out hMx.out HR.out.2.size hwx.out)
   go_wp2_with (go_at_call 66;refine HL.out.mono ?_;rintro e w' ⟨v2,rfl,hown2,hb2'⟩)
   have HN2:Hid (w'.ownsRow w.heap.size 5 1 v2 (m+sumW (l.take (k+1))) (xs ++ encs (l.take (k+1)))∧Below w.heap.size w w'):=by
    rw [take_snoc' l k hlt,sumW_snoc,encs_snoc,hx.out,← List.append_assoc,← HE.out.2,← Nat.add_assoc,← HE.out.1]
    exact ⟨hown2,HR.out.2.trans hb2'⟩
   clear hown2 hb2'
   go_wp2
   go_roundw
   case rel=>exact ⟨k+1,by omega,by go_num,HN2⟩
   case measure=>simp [intOf];omega
  ·go_wp2
   go_ret
   have e:l.take k=l:=List.take_of_length_le (by omega)
   have:=HR.out
   rw [e] at this
   exact ⟨_,rfl,this⟩
/-- A number's value: its first byte without the mark, then the others. -/
def valF (b0:Nat) (r:List Nat):Nat:=r.foldl (fun n c=>n * 256+c) (b0 % 64)
theorem i64_or_nat (a b:Nat) (ha:a<9223372036854775808) (hb:b<9223372036854775808):bits .or .i64 (a:Int) (b:Int)=((a ||| b:Nat):Int):=by
 have h:∀ a:Nat,a<9223372036854775808→(BitVec.ofInt 64 (a:Int)).toNat=a:=fun a ha=>by
  rw [BitVec.ofInt_natCast,BitVec.toNat_ofNat];exact Nat.mod_eq_of_lt (by omega)
 have hx:a ||| b<2 ^ 63:=Nat.or_lt_two_pow (by omega) (by omega)
 show IntKind.i64.wrap ((BitVec.ofInt 64 (a:Int) ||| BitVec.ofInt 64 (b:Int)).toNat:Int)=_
 rw [BitVec.toNat_or,h a ha,h b hb,IntKind.wrap_i64]
 omega
theorem valF_lt (b0:Nat):∀ (r:List Nat),(∀ c ∈ r,c<256)→valF b0 r<64 * 256 ^ r.length:=by
 have gen:∀ (r:List Nat) (n:Nat) (M:Nat),n<M→(∀ c ∈ r,c<256)→r.foldl (fun n c=>n * 256+c) n<M * 256 ^ r.length:=by
  intro r
  induction r with
  | nil=>intro n M h _;simpa using h
  | cons c r ih =>
    intro n M h hc
    have h1:=hc c (by simp)
    have:=ih (n * 256+c) (M * 256) (by omega) (fun d hd=>hc d (by simp [hd]))
    simp only [List.foldl_cons,List.length_cons]
    rw [Nat.pow_succ,Nat.mul_comm (256 ^ r.length),← Nat.mul_assoc]
    exact this
 exact fun r hr=>gen r (b0 % 64) 64 (Nat.mod_lt _ (by decide)) hr
theorem valF_snoc (b0:Nat) (r:List Nat) (c:Nat):valF b0 (r ++ [c])=valF b0 r * 256+c:=by simp [valF]
theorem or_byte (n c:Nat) (hn:n<36028797018963968) (hc:c<256):bits .or .i64 ((n:Int) * 256) (c:Int)=((n * 256+c:Nat):Int):=by
 have e:((n:Int) * 256)=((n * 256:Nat):Int):=by omega
 rw [e,i64_or_nat _ _ (by omega) (by omega)]
 have:=Nat.shiftLeft_add_eq_or_of_lt (show c<2 ^ 8 from hc) n
 rw [Nat.shiftLeft_eq] at this
 rw [← this]
theorem and63:∀ b:Fin 256,bits .and .u8 ((b.val:Nat):Int) 63=((b.val % 64:Nat):Int):=by decide +kernel
theorem read_q (q W:Nat) (hq:(q=1∧W=2)∨(q=2∧W=4)∨(q=3∧W=8)) (b off n cap b0:Nat) (r:List Nat) (w:World) (hn:n≤cap) (hW:W≤n) (hr:r.length=W - 1) (hb0:b0<256) (hbq:b0 / 64=q) (hbs:∀ c ∈ r,c<256) (hm:n≤140737488355328)
  (h0:w.cell? ⟨b,off,none⟩=some (.int .u8 (b0:Int))) (hc:∀ j,j<r.length→w.cell? ⟨b,off+1+j,none⟩=some (.int .u8 ((r.getD j 0:Nat):Int))) :
  Calls Tryd.prog 92 #[.slice (some ⟨b,off,none⟩) n cap] w fun e w'=>e=.returned (.tuple #[.int .i64 ((valF b0 r:Nat):Int),.int .i64 (W:Int)])∧w=w':=by
 have HC:=Lib.hid hc
 have HB:=Lib.hid hbs
 have HV:=Lib.hid (valF_lt b0)
 have hand:bits .and .u8 ((b0:Nat):Int) 63=((b0 % 64:Nat):Int):=and63 ⟨b0,hb0⟩
 have hdiv:((b0:Nat):Int) / 64=(q:Int):=by omega
 have hnn:(0:Int)<(n:Int):=by omega
 clear hc hbs
 rcases hq with ⟨rfl,rfl⟩ | ⟨rfl,rfl⟩ | ⟨rfl,rfl⟩
 ·go_enter Tryd.func92,Tryd.ntmps92
  go_wp2
  go_loop [2,27] (fun v i=>∃ k:Nat,k≤1∧i=.int .i64 k∧v=.int .i64 ((valF b0 (r.take k):Nat):Int)) (fun _ i=>1 - (intOf i).toNat)
  case atStart=>exact ⟨0,by omega,rfl,by simp [valF]⟩
  case round =>
   obtain ⟨k,hk,rfl,rfl⟩:=hrel
   by_cases hlt:k<1
   ·have hkr:k<r.length:=by omega
    obtain ⟨x,hx,hcell⟩:∃ x:Nat,Hid (r[k]=x)∧w.cell? ⟨b,off+1+k,none⟩=some (.int .u8 (x:Int)):=⟨r[k],rfl,by rw [HC.out k hkr];simp [List.getD,hkr]⟩
    have hx256:x<256:=by have:=HB.out _ (List.getElem_mem hkr);rw [hx.out] at this;exact this
    obtain ⟨y,hy⟩:∃ y,Hid (valF b0 (r.take k)=y):=⟨_,rfl⟩
    have hyl:y<36028797018963968:=by
     have h1:=HV.out (r.take k) (fun c hc=>HB.out c (List.mem_of_mem_take hc))
     rw [hy.out] at h1
     have h2:(r.take k).length≤6:=by rw [List.length_take];omega
     have h3:256 ^ (r.take k).length≤256 ^ 6:=Nat.pow_le_pow_right (by decide) h2
     omega
    have hsn:Hid (valF b0 (r.take (k+1))=y * 256+x):=by
     have e:r.take (k+1)=r.take k ++ [r[k]]:=by rw [List.take_succ_eq_append_getElem hkr]
     show _=_
     rw [e,valF_snoc,hx.out,hy.out]
    have hor:=or_byte y x hyl hx256
    rw [hy.out]
    clear hlt
    go_wp2
    go_round
    case rel=>exact ⟨k+1,by omega,by go_num,by rw [hsn.out];go_num⟩
    case measure=>simp [intOf];omega
   ·go_wp2
    go_ret2
    have e:r.take k=r:=List.take_of_length_le (by omega)
    rw [e]
    exact ⟨rfl,rfl⟩
 ·go_enter Tryd.func92,Tryd.ntmps92
  go_wp2
  go_loop [2,27] (fun v i=>∃ k:Nat,k≤3∧i=.int .i64 k∧v=.int .i64 ((valF b0 (r.take k):Nat):Int)) (fun _ i=>3 - (intOf i).toNat)
  case atStart=>exact ⟨0,by omega,rfl,by simp [valF]⟩
  case round =>
   obtain ⟨k,hk,rfl,rfl⟩:=hrel
   by_cases hlt:k<3
   ·have hkr:k<r.length:=by omega
    obtain ⟨x,hx,hcell⟩:∃ x:Nat,Hid (r[k]=x)∧w.cell? ⟨b,off+1+k,none⟩=some (.int .u8 (x:Int)):=⟨r[k],rfl,by rw [HC.out k hkr];simp [List.getD,hkr]⟩
    have hx256:x<256:=by have:=HB.out _ (List.getElem_mem hkr);rw [hx.out] at this;exact this
    obtain ⟨y,hy⟩:∃ y,Hid (valF b0 (r.take k)=y):=⟨_,rfl⟩
    have hyl:y<36028797018963968:=by
     have h1:=HV.out (r.take k) (fun c hc=>HB.out c (List.mem_of_mem_take hc))
     rw [hy.out] at h1
     have h2:(r.take k).length≤6:=by rw [List.length_take];omega
     have h3:256 ^ (r.take k).length≤256 ^ 6:=Nat.pow_le_pow_right (by decide) h2
     omega
    have hsn:Hid (valF b0 (r.take (k+1))=y * 256+x):=by
     have e:r.take (k+1)=r.take k ++ [r[k]]:=by rw [List.take_succ_eq_append_getElem hkr]
     show _=_
     rw [e,valF_snoc,hx.out,hy.out]
    have hor:=or_byte y x hyl hx256
    rw [hy.out]
    clear hlt
    go_wp2
    go_round
    case rel=>exact ⟨k+1,by omega,by go_num,by rw [hsn.out];go_num⟩
    case measure=>simp [intOf];omega
   ·go_wp2
    go_ret2
    have e:r.take k=r:=List.take_of_length_le (by omega)
    rw [e]
    exact ⟨rfl,rfl⟩
 ·go_enter Tryd.func92,Tryd.ntmps92
  go_wp2
  go_loop [2,27] (fun v i=>∃ k:Nat,k≤7∧i=.int .i64 k∧v=.int .i64 ((valF b0 (r.take k):Nat):Int)) (fun _ i=>7 - (intOf i).toNat)
  case atStart=>exact ⟨0,by omega,rfl,by simp [valF]⟩
  case round =>
   obtain ⟨k,hk,rfl,rfl⟩:=hrel
   by_cases hlt:k<7
   ·have hkr:k<r.length:=by omega
    obtain ⟨x,hx,hcell⟩:∃ x:Nat,Hid (r[k]=x)∧w.cell? ⟨b,off+1+k,none⟩=some (.int .u8 (x:Int)):=⟨r[k],rfl,by rw [HC.out k hkr];simp [List.getD,hkr]⟩
    have hx256:x<256:=by have:=HB.out _ (List.getElem_mem hkr);rw [hx.out] at this;exact this
    obtain ⟨y,hy⟩:∃ y,Hid (valF b0 (r.take k)=y):=⟨_,rfl⟩
    have hyl:y<36028797018963968:=by
     have h1:=HV.out (r.take k) (fun c hc=>HB.out c (List.mem_of_mem_take hc))
     rw [hy.out] at h1
     have h2:(r.take k).length≤6:=by rw [List.length_take];omega
     have h3:256 ^ (r.take k).length≤256 ^ 6:=Nat.pow_le_pow_right (by decide) h2
     omega
    have hsn:Hid (valF b0 (r.take (k+1))=y * 256+x):=by
     have e:r.take (k+1)=r.take k ++ [r[k]]:=by rw [List.take_succ_eq_append_getElem hkr]
     show _=_
     rw [e,valF_snoc,hx.out,hy.out]
    have hor:=or_byte y x hyl hx256
    rw [hy.out]
    clear hlt
    go_wp2
    go_round
    case rel=>exact ⟨k+1,by omega,by go_num,by rw [hsn.out];go_num⟩
    case measure=>simp [intOf];omega
   ·go_wp2
    go_ret2
    have e:r.take k=r:=List.take_of_length_le (by omega)
    rw [e]
    exact ⟨rfl,rfl⟩
theorem read_1 (b off n cap b0:Nat) (w:World) (hn:n≤cap) (hW:1≤n) (hb0:b0<256) (hbq:b0 / 64=0) (hm:n≤140737488355328)
  (h0:w.cell? ⟨b,off,none⟩=some (.int .u8 (b0:Int))) :
  Calls Tryd.prog 92 #[.slice (some ⟨b,off,none⟩) n cap] w fun e w'=>e=.returned (.tuple #[.int .i64 ((valF b0 []:Nat):Int),.int .i64 1])∧w=w':=by
 have hv:((valF b0 []:Nat):Int)=(b0:Int):=by simp [valF];omega
 rw [hv]
 clear hv
 have hand:bits .and .u8 ((b0:Nat):Int) 63=((b0:Nat):Int):=by rw [and63 ⟨b0,hb0⟩];simp only;omega
 have hdiv:((b0:Nat):Int) / 64=0:=by omega
 have hnn:(0:Int)<(n:Int):=by omega
 clear hbq
 by_cases hcap:cap=1
 all_goals
  go_enter Tryd.func92,Tryd.ntmps92
  go_wp2
  go_loop [2,27] (fun v i=>i=.int .i64 0∧v=.int .i64 (b0:Int)) (fun _ _=>0)
  case atStart=>exact ⟨rfl,rfl⟩
  case round =>
   obtain ⟨rfl,rfl⟩:=hrel
   go_wp2
   go_ret2
   exact ⟨rfl,rfl⟩
theorem read_nil (A:Option Addr) (cap:Nat) (w:World) :
  Calls Tryd.prog 92 #[.slice A 0 cap] w fun e w'=>e=.returned (.tuple #[.int .i64 0,.int .i64 0])∧w=w':=by
 go_enter Tryd.func92,Tryd.ntmps92
 go_wp2
 go_ret2
 exact ⟨rfl,rfl⟩
theorem read_less (q:Nat) (W:Nat) (hq:(q=1∧W=2)∨(q=2∧W=4)∨(q=3∧W=8)) (b off n cap b0:Nat) (w:World) (hW:n<W) (hn0:0<n) (hbq:b0 / 64=q) (h0:w.cell? ⟨b,off,none⟩=some (.int .u8 (b0:Int))) :
  Calls Tryd.prog 92 #[.slice (some ⟨b,off,none⟩) n cap] w fun e w'=>e=.returned (.tuple #[.int .i64 0,.int .i64 0])∧w=w':=by
 have hdiv:((b0:Nat):Int) / 64=(q:Int):=by omega
 have hnn:(0:Int)<(n:Int):=by omega
 rcases hq with ⟨rfl,rfl⟩ | ⟨rfl,rfl⟩ | ⟨rfl,rfl⟩
 all_goals
  go_enter Tryd.func92,Tryd.ntmps92
  go_wp2
  go_ret2
  exact ⟨rfl,rfl⟩
/-- How many bytes the number that begins so has. -/
def lenF (b0:Nat):Nat:=if b0 / 64=0 then 1 else if b0 / 64=1 then 2 else if b0 / 64=2 then 4 else 8
/-- The number in front, and its length; nothing: it is not all there. -/
def dec:List Nat→Option (Nat × Nat)
 | []=>none
 | b0 :: r=>if r.length+1<lenF b0 then none else some (valF b0 (r.take (lenF b0 - 1)),lenF b0)
theorem lenF_cases (b0:Nat) (h:b0<256):(b0 / 64=0∧lenF b0=1)∨(b0 / 64=1∧lenF b0=2)∨(b0 / 64=2∧lenF b0=4)∨(b0 / 64=3∧lenF b0=8):=by
 unfold lenF;(repeat' split) <;> omega
theorem read_any (bs:List Nat) (B:Nat) (A:Option Addr) (cap:Nat) (w:World) (hx:Rd w B A bs.length (bv bs)) (hb:∀ c ∈ bs,c<256) (hn:bs.length≤cap) (hm:bs.length≤140737488355328) :
  Calls Tryd.prog 92 #[.slice A bs.length cap] w fun e w'=>e=.returned (match dec bs with
   | some (v,W)=>.tuple #[.int .i64 ((v:Nat):Int),.int .i64 (W:Int)]
   | none=>.tuple #[.int .i64 0,.int .i64 0])∧w=w':=by
 match bs,hx,hb,hn,hm with
 | [],hx,hb,hn,hm=>exact read_nil A cap w
 | b0 :: r,hx,hb,hn,hm =>
   obtain ⟨b,off,rfl,_,hc⟩:=hx.2 (by simp)
   have hb0:=hb b0 (by simp)
   have h0:w.cell? ⟨b,off,none⟩=some (.int .u8 (b0:Int)):=hc 0 _ rfl
   have hc':∀ j,j<(r.take (lenF b0 - 1)).length→w.cell? ⟨b,off+1+j,none⟩=some (.int .u8 (((r.take (lenF b0 - 1)).getD j 0:Nat):Int)):=fun j hj=>by
    have hj2:j<r.length:=by rw [List.length_take] at hj;omega
    have:=hc (j+1) (.int .u8 ((r[j]:Nat):Int)) (by simp [bv,hj2])
    rw [show off+1+j=off+(j+1) by omega,this]
    simp only [List.getD,List.getElem?_take]
    rw [List.length_take] at hj
    rw [if_pos (by omega),List.getElem?_eq_getElem hj2]
    rfl
   have hbr:∀ c ∈ r.take (lenF b0 - 1),c<256:=fun c hc=>hb c (by simp [List.mem_of_mem_take hc])
   simp only [dec]
   by_cases hlt:r.length+1<lenF b0
   ·rw [if_pos hlt]
    rcases lenF_cases b0 hb0 with ⟨hq,hl⟩ | ⟨hq,hl⟩ | ⟨hq,hl⟩ | ⟨hq,hl⟩
    ·omega
    ·exact read_less 1 2 (.inl ⟨rfl,rfl⟩) b off _ cap b0 w (by simp;omega) (by simp) hq h0
    ·exact read_less 2 4 (.inr (.inl ⟨rfl,rfl⟩)) b off _ cap b0 w (by simp;omega) (by simp) hq h0
    ·exact read_less 3 8 (.inr (.inr ⟨rfl,rfl⟩)) b off _ cap b0 w (by simp;omega) (by simp) hq h0
   ·rw [if_neg hlt]
    have hlen:(r.take (lenF b0 - 1)).length=lenF b0 - 1:=by rw [List.length_take];omega
    rcases lenF_cases b0 hb0 with ⟨hq,hl⟩ | ⟨hq,hl⟩ | ⟨hq,hl⟩ | ⟨hq,hl⟩
    ·rw [hl]
     exact read_1 b off _ cap b0 w hn (by simp) hb0 hq hm h0
    ·rw [hl] at hc' hbr hlen ⊢
     exact read_q 1 2 (.inl ⟨rfl,rfl⟩) b off _ cap b0 _ w hn (by simp;omega) hlen hb0 hq hbr hm h0 hc'
    ·rw [hl] at hc' hbr hlen ⊢
     exact read_q 2 4 (.inr (.inl ⟨rfl,rfl⟩)) b off _ cap b0 _ w hn (by simp;omega) hlen hb0 hq hbr hm h0 hc'
    ·rw [hl] at hc' hbr hlen ⊢
     exact read_q 3 8 (.inr (.inr ⟨rfl,rfl⟩)) b off _ cap b0 _ w hn (by simp;omega) hlen hb0 hq hbr hm h0 hc'
theorem dec_le {bs:List Nat} {v W:Nat} (h:dec bs=some (v,W)):0<W∧W≤bs.length∧W≤8:=by
 cases bs with
 | nil=>cases h
 | cons b0 r =>
   simp only [dec] at h
   split at h
   ·cases h
   ·rename_i hn
    simp only [Option.some.injEq,Prod.mk.injEq] at h
    have:0<lenF b0∧lenF b0≤8:=by unfold lenF;(repeat' split) <;> omega
    rw [← h.2]
    simp only [List.length_cons]
    omega
theorem dec_lt {bs:List Nat} {v W:Nat} (hb:∀ c ∈ bs,c<256) (h:dec bs=some (v,W)):v≤4611686018427387903:=by
 cases bs with
 | nil=>cases h
 | cons b0 r =>
   simp only [dec] at h
   split at h
   ·cases h
   ·rename_i hn
    simp only [Option.some.injEq,Prod.mk.injEq] at h
    have h1:=valF_lt b0 (r.take (lenF b0 - 1)) (fun c hc=>hb c (by simp [List.mem_of_mem_take hc]))
    have h2:(r.take (lenF b0 - 1)).length≤7:=by
     have:lenF b0≤8:=by unfold lenF;(repeat' split) <;> omega
     rw [List.length_take];omega
    have h3:256 ^ (r.take (lenF b0 - 1)).length≤256 ^ 7:=Nat.pow_le_pow_right (by decide) h2
    rw [← h.1]
    omega
theorem take_none (bs:List Nat) (B:Nat) (A:Option Addr) (cap:Nat) (w:World) (hx:Rd w B A bs.length (bv bs)) (hb:∀ c ∈ bs,c<256) (hn:bs.length≤cap) (hm:bs.length≤140737488355328) (hd:dec bs=none) :
  Calls Tryd.prog 87 #[.slice A bs.length cap] w fun e w'=>e=.returned (.tuple #[.int .i64 0,.slice none 0 0,.int .i64 3])∧w=w':=by
 have H:=read_any bs B A cap w hx hb hn hm
 rw [hd] at H
 have H:=Lib.hid H
 clear hx hb hn hd
 go_enter Tryd.func87,Tryd.ntmps87
 go_wp2_with (go_at_call 92;refine H.out.mono ?_;rintro e w' ⟨rfl,rfl⟩)
 go_ret3
 exact ⟨rfl,rfl⟩
theorem take_some (bs:List Nat) (B:Nat) (A:Option Addr) (cap:Nat) (w:World) (hx:Rd w B A bs.length (bv bs)) (hB:B≤w.heap.size) (hb:∀ c ∈ bs,c<256) (hn:bs.length≤cap) (hm:bs.length≤140737488355328) (v W:Nat) (hd:dec bs=some (v,W)) :
  Calls Tryd.prog 87 #[.slice A bs.length cap] w fun e w'=>∃ v',e=.returned (.tuple #[.int .i64 (v:Int),v',.int .i64 0])∧w'.ownsRow w.heap.size 5 1 v' (bs.length - W) (bv (bs.drop W))∧Below w.heap.size w w':=by
 have H:=read_any bs B A cap w hx hb hn hm
 rw [hd] at H
 have H:=Lib.hid H
 obtain ⟨hW0,hWn,hW8⟩:=dec_le hd
 obtain ⟨b,off,rfl,_,_⟩:=hx.2 (by omega)
 have HF:Hid (∀ A' c',A'=some ⟨b,off,none⟩∨A'=some ⟨b,off+W,none⟩→(A'=some ⟨b,off,none⟩→bs.length=W)→Calls Tryd.prog 93 #[.slice A' (bs.length - W) c'] w fun e w'=>∃ v',e=.returned v'∧w'.ownsRow w.heap.size 5 1 v' (bs.length - W) (bv (bs.drop W))∧Below w.heap.size w w'):=by
  intro A' c' hA' hz
  have hr:=hx.tail' W hWn
  rw [bv_drop] at hr
  refine fresh_any A' (bs.length - W) c' (bv (bs.drop W)) B w ?_ hB (ones_bv _) (by omega)
  rcases hA' with rfl | rfl
  ·exact ⟨hr.1,fun h=>by have:=hz rfl;omega⟩
  ·exact hr
 have hw0:((W:Int) == 0)=false:=by simp;omega
 have hwn:(W:Int)≤(bs.length:Int):=by omega
 have hwc:(W:Int)≤(cap:Int):=by omega
 clear hx hb hd
 by_cases hcap:cap=W
 ·have hlen:bs.length=W:=by omega
  have he:bs.length - W=0:=by omega
  have HF':=HF.out (some ⟨b,off,none⟩) 0 (.inl rfl) (fun _=>hlen)
  rw [he] at HF' ⊢
  have HF':=Lib.hid HF'
  clear hlen HF he
  subst hcap
  go_enter Tryd.func87,Tryd.ntmps87
  go_wp2_with (first | (go_at_call 92;refine H.out.mono ?_;rintro e w' ⟨rfl,rfl⟩) | (go_at_call 93;refine HF'.out.mono ?_;rintro e w' ⟨v',rfl,ho,hb'⟩;have HO:=Lib.hid (And.intro ho hb');clear ho hb'))
  go_ret3
  exact ⟨_,rfl,HO.out⟩
 ·have hcn:¬ ((cap:Int)=W):=by omega
  have HF':=Lib.hid (HF.out (some ⟨b,off+W,none⟩) (cap - W) (.inr rfl) (fun e=>by simp at e))
  clear HF
  go_enter Tryd.func87,Tryd.ntmps87
  go_wp2_with (first | (go_at_call 92;refine H.out.mono ?_;rintro e w' ⟨rfl,rfl⟩) | (go_at_call 93;refine HF'.out.mono ?_;rintro e w' ⟨v',rfl,ho,hb'⟩;have HO:=Lib.hid (And.intro ho hb');clear ho hb'))
  go_ret3
  exact ⟨_,rfl,HO.out⟩
theorem take_yes (bs:List Nat) (B:Nat) (A:Option Addr) (cap:Nat) (w:World) (hx:Rd w B A bs.length (bv bs)) (hB:B≤w.heap.size) (hb:∀ c ∈ bs,c<256) (hn:bs.length≤cap) (hm:bs.length≤140737488355328) (v W:Nat) (hd:dec bs=some (v,W)) :
  Calls Tryd.prog 87 #[.slice A bs.length cap] w fun e w'=>∃ A' c',e=.returned (.tuple #[.int .i64 (v:Int),.slice A' (bs.length - W) c',.int .i64 0]) ∧
   Hid (bs.length - W≤c'∧okA A' (bs.length - W) c'∧Rd w' w'.heap.size A' (bs.length - W) (bv (bs.drop W))∧Below w.heap.size w w'):=by
 refine (take_some bs B A cap w hx hB hb hn hm v W hd).mono ?_
 rintro e w' ⟨v',rfl,ho,hb'⟩
 obtain ⟨A',c',rfl,h1,_,h2,h3⟩:=own_form ho
 rw [Nat.mul_one] at h3
 exact ⟨A',c',rfl,h1,h2,h3,hb'⟩
theorem Tabs.alloc {w:World} (h:Tabs w) (o:Obj):Tabs (w.alloc o):=h.below ((Below.refl _ _).alloc (Nat.le_refl _) _) h.lt
/-- A number's bytes, the highest first. -/
def encB (n:Int):List Nat:=(List.range (wid n)).map fun j=>laidN n / 2 ^ (8 * (wid n - 1 - j)) % 256
theorem encB_len (n:Int):(encB n).length=wid n:=by simp [encB]
theorem encB_lt (n:Int):∀ c ∈ encB n,c<256:=fun c hc=>by
 simp only [encB,List.mem_map] at hc
 obtain ⟨j,_,rfl⟩:=hc
 exact Nat.mod_lt _ (by decide)
theorem encV_bv (n:Int):encV n=bv (encB n):=by
 unfold encV encL bv encB
 rw [List.map_map]
 refine List.map_congr_left fun j _=>?_
 simp only [Function.comp,byt]
 congr 1
theorem dig (m k:Nat):m / 2 ^ (k+8) * 256+m / 2 ^ k % 256=m / 2 ^ k:=by
 rw [Nat.pow_add,← Nat.div_div_eq_div_mul]
 exact Nat.div_add_mod' _ _
theorem ldig (m k t:Nat):(m+t * 256 * 2 ^ k) / 2 ^ k % 256=m / 2 ^ k % 256:=by
 rw [Nat.add_mul_div_right _ _ (Nat.two_pow_pos k)];omega
theorem dec_enc1 (m:Nat) (hw:wid (m:Int)=1) (h1:0≤(m:Int)) (h2:(m:Int)<64) (r:List Nat):dec (encB m ++ r)=some (m,1):=by
 have hL:laidN (m:Int)=m:=by simp [laidN,hw]
 have hb:lenF (m % 256)=1:=by unfold lenF;(repeat' split) <;> omega
 simp only [encB,hw,hL,List.range_succ,List.range_zero,List.nil_append,List.map_cons,List.map_nil,List.cons_append,Nat.sub_self,Nat.mul_zero,Nat.pow_zero,Nat.div_one,dec,hb]
 rw [if_neg (by omega)]
 simp [valF]
 omega
theorem dec_enc2 (m:Nat) (hw:wid (m:Int)=2) (h1:64≤(m:Int)) (h2:(m:Int)<16384) (r:List Nat):dec (encB m ++ r)=some (m,2):=by
 have hL:laidN (m:Int)=m+2 ^ 14:=by simp [laidN,hw]
 have hb:lenF ((m+2 ^ 14) / 2 ^ 8 % 256)=2:=by unfold lenF;(repeat' split) <;> omega
 simp only [encB,hw,hL,List.range_succ,List.range_zero,List.nil_append,List.map_cons,List.map_nil,List.cons_append,List.append_assoc,Nat.sub_self,Nat.mul_zero,Nat.pow_zero,Nat.div_one,Nat.reduceSub,Nat.reduceMul,dec,hb,List.length_cons]
 rw [if_neg (by omega)]
 simp [valF]
 omega
theorem dec_enc4 (m:Nat) (hw:wid (m:Int)=4) (h1:16384≤(m:Int)) (h2:(m:Int)<1073741824) (r:List Nat):dec (encB m ++ r)=some (m,4):=by
 have hL:laidN (m:Int)=m+2 ^ 31:=by simp [laidN,hw]
 have htop:(m+2 ^ 31) / 2 ^ 24 % 256=m / 2 ^ 24+128:=by omega
 have hb:lenF (m / 2 ^ 24+128)=4:=by unfold lenF;(repeat' split) <;> omega
 have h64:(m / 2 ^ 24+128) % 64=m / 2 ^ 24:=by omega
 have e:encB (m:Int)=[m / 2 ^ 24+128,m / 2 ^ 16 % 256,m / 2 ^ 8 % 256,m / 2 ^ 0 % 256]:=by
  have h2:=ldig m 16 (2 ^ 7)
  have h1:=ldig m 8 (2 ^ 15)
  have h0:=ldig m 0 (2 ^ 23)
  have r2:2 ^ 7 * 256 * 2 ^ 16=2 ^ 31:=by decide
  have r1:2 ^ 15 * 256 * 2 ^ 8=2 ^ 31:=by decide
  have r0:2 ^ 23 * 256 * 2 ^ 0=2 ^ 31:=by decide
  rw [r2] at h2
  rw [r1] at h1
  rw [r0] at h0
  have er:List.range 4=[0,1,2,3]:=by decide
  unfold encB
  rw [hw,hL,er]
  show [(m+2 ^ 31) / 2 ^ 24 % 256,(m+2 ^ 31) / 2 ^ 16 % 256,(m+2 ^ 31) / 2 ^ 8 % 256,(m+2 ^ 31) / 2 ^ 0 % 256]=_
  rw [htop,h2,h1,h0]
 rw [e]
 show dec ((m / 2 ^ 24+128) :: ([m / 2 ^ 16 % 256,m / 2 ^ 8 % 256,m / 2 ^ 0 % 256] ++ r))=_
 simp only [dec,hb]
 rw [if_neg (by simp only [List.length_append,List.length_cons,List.length_nil];omega)]
 have et:([m / 2 ^ 16 % 256,m / 2 ^ 8 % 256,m / 2 ^ 0 % 256] ++ r).take (4 - 1)=[m / 2 ^ 16 % 256,m / 2 ^ 8 % 256,m / 2 ^ 0 % 256]:=rfl
 rw [et]
 simp only [valF,List.foldl_cons,List.foldl_nil,h64]
 rw [dig m 16,dig m 8,dig m 0,Nat.pow_zero,Nat.div_one]
theorem dec_enc8 (m:Nat) (hw:wid (m:Int)=8) (h1:1073741824≤(m:Int)) (h2:(m:Int)≤4611686018427387903) (r:List Nat):dec (encB m ++ r)=some (m,8):=by
 have hL:laidN (m:Int)=m+3 * 2 ^ 62:=by simp [laidN,hw]
 have hm62:m<2 ^ 62:=by omega
 have htop:(m+3 * 2 ^ 62) / 2 ^ 56 % 256=m / 2 ^ 56+192:=by omega
 have hb:lenF (m / 2 ^ 56+192)=8:=by unfold lenF;(repeat' split) <;> omega
 have h64:(m / 2 ^ 56+192) % 64=m / 2 ^ 56:=by omega
 have e:encB (m:Int)=[m / 2 ^ 56+192,m / 2 ^ 48 % 256,m / 2 ^ 40 % 256,m / 2 ^ 32 % 256,m / 2 ^ 24 % 256,m / 2 ^ 16 % 256,m / 2 ^ 8 % 256,m / 2 ^ 0 % 256]:=by
  have h6:=ldig m 48 (3 * 2 ^ 6)
  have h5:=ldig m 40 (3 * 2 ^ 14)
  have h4:=ldig m 32 (3 * 2 ^ 22)
  have h3:=ldig m 24 (3 * 2 ^ 30)
  have h2:=ldig m 16 (3 * 2 ^ 38)
  have h1:=ldig m 8 (3 * 2 ^ 46)
  have h0:=ldig m 0 (3 * 2 ^ 54)
  have r6:3 * 2 ^ 6 * 256 * 2 ^ 48=3 * 2 ^ 62:=by decide
  have r5:3 * 2 ^ 14 * 256 * 2 ^ 40=3 * 2 ^ 62:=by decide
  have r4:3 * 2 ^ 22 * 256 * 2 ^ 32=3 * 2 ^ 62:=by decide
  have r3:3 * 2 ^ 30 * 256 * 2 ^ 24=3 * 2 ^ 62:=by decide
  have r2:3 * 2 ^ 38 * 256 * 2 ^ 16=3 * 2 ^ 62:=by decide
  have r1:3 * 2 ^ 46 * 256 * 2 ^ 8=3 * 2 ^ 62:=by decide
  have r0:3 * 2 ^ 54 * 256 * 2 ^ 0=3 * 2 ^ 62:=by decide
  rw [r6] at h6
  rw [r5] at h5
  rw [r4] at h4
  rw [r3] at h3
  rw [r2] at h2
  rw [r1] at h1
  rw [r0] at h0
  have er:List.range 8=[0,1,2,3,4,5,6,7]:=by decide
  unfold encB
  rw [hw,hL,er]
  show [(m+3 * 2 ^ 62) / 2 ^ 56 % 256,(m+3 * 2 ^ 62) / 2 ^ 48 % 256,(m+3 * 2 ^ 62) / 2 ^ 40 % 256,(m+3 * 2 ^ 62) / 2 ^ 32 % 256,(m+3 * 2 ^ 62) / 2 ^ 24 % 256,(m+3 * 2 ^ 62) / 2 ^ 16 % 256,(m+3 * 2 ^ 62) / 2 ^ 8 % 256,(m+3 * 2 ^ 62) / 2 ^ 0 % 256]=_
  rw [htop,h6,h5,h4,h3,h2,h1,h0]
 rw [e]
 show dec ((m / 2 ^ 56+192) :: ([m / 2 ^ 48 % 256,m / 2 ^ 40 % 256,m / 2 ^ 32 % 256,m / 2 ^ 24 % 256,m / 2 ^ 16 % 256,m / 2 ^ 8 % 256,m / 2 ^ 0 % 256] ++ r))=_
 simp only [dec,hb]
 rw [if_neg (by simp only [List.length_append,List.length_cons,List.length_nil];omega)]
 have et:([m / 2 ^ 48 % 256,m / 2 ^ 40 % 256,m / 2 ^ 32 % 256,m / 2 ^ 24 % 256,m / 2 ^ 16 % 256,m / 2 ^ 8 % 256,m / 2 ^ 0 % 256] ++ r).take (8 - 1)=[m / 2 ^ 48 % 256,m / 2 ^ 40 % 256,m / 2 ^ 32 % 256,m / 2 ^ 24 % 256,m / 2 ^ 16 % 256,m / 2 ^ 8 % 256,m / 2 ^ 0 % 256]:=rfl
 rw [et]
 simp only [valF,List.foldl_cons,List.foldl_nil,h64]
 rw [dig m 48,dig m 40,dig m 32,dig m 24,dig m 16,dig m 8,dig m 0,Nat.pow_zero,Nat.div_one]
theorem dec_enc (n:Int) (h:wid n≠0) (r:List Nat):dec (encB n ++ r)=some (n.toNat,wid n):=by
 obtain ⟨m,hm⟩:∃ m:Nat,n=m:=⟨n.toNat,by have:=wid_cases n h;omega⟩
 subst hm
 rcases wid_cases (m:Int) h with ⟨hw,h1,h2⟩ | ⟨hw,h1,h2⟩ | ⟨hw,h1,h2⟩ | ⟨hw,h1,h2⟩
 ·rw [hw];exact dec_enc1 m hw h1 h2 r
 ·rw [hw];exact dec_enc2 m hw h1 h2 r
 ·rw [hw];exact dec_enc4 m hw h1 h2 r
 ·rw [hw];exact dec_enc8 m hw h1 h2 r
def encsB (l:List Int):List Nat:=l.flatMap encB
theorem encs_bv (l:List Int):encs l=bv (encsB l):=by
 induction l with
 | nil=>rfl
 | cons n l ih=>simp only [encs,encsB,List.flatMap_cons] at ih ⊢;rw [ih,encV_bv];simp [bv]
theorem encsB_len (l:List Int):(encsB l).length=sumW l:=by
 have:=encs_len l
 rw [encs_bv] at this
 simpa [bv] using this
theorem encsB_lt (l:List Int):∀ c ∈ encsB l,c<256:=fun c hc=>by
 simp only [encsB,List.mem_flatMap] at hc
 obtain ⟨n,_,h⟩:=hc
 exact encB_lt n c h
end Go.Proofs.YtccljifichaieaaDoor
