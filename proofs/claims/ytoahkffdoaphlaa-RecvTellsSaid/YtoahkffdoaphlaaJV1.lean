/- Joined texts. Conditions: as each theorem lists them. -/
import Derived.Test.YtoahkffdoaphlaaJH1
import Derived.Test.YtoahkffdoaphlaaJOp
import Derived.OwnWalk
import Derived.WalkSpells
import Derived.Maps.AppendAt
import Derived.Below
import Derived.Test.YtoahkffdoaphlaaJAm1
import Derived.Laws.BitsAllLaws
import Derived.Laws.MakeOwn
set_option linter.unusedSimpArgs false
set_option linter.unusedVariables false
set_option maxRecDepth 100000
set_option maxHeartbeats 80000000
namespace Go.Proofs.Ytoahkffdoaphlaa
open Go Go.RowKit
/-- How many bytes a number takes; 0: it may not be. -/
def wid (n:Int):Nat:=if n<0∨4611686018427387903<n then 0 else if n<64 then 1 else if n<16384 then 2 else if n<1073741824 then 4 else 8
theorem width_any (n:Int) (w:World) :
  Calls Try.prog 111 #[.int .i64 n] w fun e w'=>e=.returned (.int .i64 (wid n))∧w=w':=by
 have key:∀ k:Nat,wid n=k→((wid n:Nat):Int)=(k:Int):=fun k h=>by rw [h]
 by_cases h0:n<0
 ·have e:((wid n:Nat):Int)=0:=key 0 (by unfold wid;rw [if_pos (.inl h0)])
  rw [e]
  clear e key
  go_enter Try.func111,Try.ntmps111
  go_wp2
  go_ret
  exact ⟨rfl,rfl⟩
 ·by_cases h1:4611686018427387903<n
  ·have e:((wid n:Nat):Int)=0:=key 0 (by unfold wid;rw [if_pos (.inr h1)])
   rw [e]
   clear e key
   go_enter Try.func111,Try.ntmps111
   go_wp2
   go_ret
   exact ⟨rfl,rfl⟩
  ·by_cases h2:n<64
   ·have e:((wid n:Nat):Int)=1:=key 1 (by unfold wid;rw [if_neg (by omega),if_pos h2])
    rw [e]
    clear e key
    go_enter Try.func111,Try.ntmps111
    go_wp2
    go_ret
    exact ⟨rfl,rfl⟩
   ·by_cases h3:n<16384
    ·have e:((wid n:Nat):Int)=2:=key 2 (by unfold wid;rw [if_neg (by omega),if_neg h2,if_pos h3])
     rw [e]
     clear e key
     go_enter Try.func111,Try.ntmps111
     go_wp2
     go_ret
     exact ⟨rfl,rfl⟩
    ·by_cases h4:n<1073741824
     ·have e:((wid n:Nat):Int)=4:=key 4 (by unfold wid;rw [if_neg (by omega),if_neg h2,if_neg h3,if_pos h4])
      rw [e]
      clear e key
      go_enter Try.func111,Try.ntmps111
      go_wp2
      go_ret
      exact ⟨rfl,rfl⟩
     ·have e:((wid n:Nat):Int)=8:=key 8 (by unfold wid;rw [if_neg (by omega),if_neg h2,if_neg h3,if_neg h4])
      rw [e]
      clear e key
      go_enter Try.func111,Try.ntmps111
      go_wp2
      go_ret
      exact ⟨rfl,rfl⟩
def sumW (l:List Int):Nat:=(l.map wid).sum
theorem wid_le (n:Int):wid n≤8:=by unfold wid;(repeat' split) <;> omega
theorem sumW_le (l:List Int):sumW l≤8 * l.length:=by
 induction l with
 | nil=>simp [sumW]
 | cons n l ih=>have:=wid_le n;simp only [sumW,List.map_cons,List.sum_cons,List.length_cons] at ih ⊢;omega
theorem sumW_snoc (l:List Int) (n:Int):sumW (l ++ [n])=sumW l+wid n:=by simp [sumW]
theorem take_snoc' (l:List Int) (k:Nat) (h:k<l.length):l.take (k+1)=l.take k ++ [l[k]]:=by rw [List.take_succ_eq_append_getElem h]
/-- Every number may be. -/
def allMay (l:List Int):Prop:=∀ n ∈ l,wid n≠0
instance (l:List Int):Decidable (allMay l):=inferInstanceAs (Decidable (∀ n ∈ l,wid n≠0))
theorem size_ok (l:List Int) (b off cap:Nat) (w:World) (hl:l.length<1000000000000000) (hc:∀ j,j<l.length→w.cell? ⟨b,off+j,none⟩=some (.int .i64 (l.getD j 0))) (hm:allMay l) :
  Calls Try.prog 102 #[.slice (some ⟨b,off,none⟩) l.length cap] w fun e w'=>e=.returned (.int .i64 (sumW l))∧w=w':=by
 have HC:=Lib.hid hc
 clear hc
 go_enter Try.func102,Try.ntmps102
 go_wp2
 go_loop [3,9] (fun s i=>∃ k:Nat,k≤l.length∧i=.int .i64 k∧s=.int .i64 (sumW (l.take k))) (fun _ i=>l.length - (intOf i).toNat)
 case atStart=>exact ⟨0,by omega,rfl,rfl⟩
 case round =>
  obtain ⟨k,hk,rfl,rfl⟩:=hrel
  have hs:=sumW_le (l.take k)
  have hs2:(l.take k).length≤k:=List.length_take_le _ _
  by_cases hlt:k<l.length
  ·obtain ⟨x,hx,hcell⟩:∃ x,Hid (l[k]=x)∧w.cell? ⟨b,off+k,none⟩=some (.int .i64 x):=⟨l[k],rfl,by rw [HC.out k hlt];simp [List.getD,hlt]⟩
   have hw:((wid x:Int) == 0)=false:=by
    have:=hm (l[k]) (List.getElem_mem _)
    rw [hx.out] at this
    simpa using this
   have hw8:=wid_le x
   have hsn:Hid (sumW (l.take (k+1))=sumW (l.take k)+wid x):=by rw [take_snoc' l k hlt,sumW_snoc,hx.out];exact rfl
   go_wp2_with (go_at_call 111;refine (width_any _ _).mono ?_;rintro e w' ⟨rfl,rfl⟩)
   go_round
   case rel=>exact ⟨k+1,by omega,by go_num,by rw [hsn.out];go_num⟩
   case measure=>simp [intOf];omega
  ·go_wp2
   go_ret
   exact ⟨ret_int (by rw [List.take_of_length_le (by omega)]),rfl⟩
theorem size_no (l:List Int) (b off cap:Nat) (w:World) (hl:l.length<1000000000000000) (hc:∀ j,j<l.length→w.cell? ⟨b,off+j,none⟩=some (.int .i64 (l.getD j 0))) (hm:¬ allMay l) :
  Calls Try.prog 102 #[.slice (some ⟨b,off,none⟩) l.length cap] w fun e w'=>e=.returned (.int .i64 (-1))∧w=w':=by
 have hb:∀ k,k≤l.length→(∀ j,j<k→wid (l.getD j 0)≠0)→k<l.length:=fun k hk h=>by
  rcases Nat.lt_or_ge k l.length with h1 | h1
  ·exact h1
  ·exact absurd (fun n hn=>by
    obtain ⟨j,hj,rfl⟩:=List.mem_iff_getElem.1 hn
    have:=h j (by omega)
    simpa [List.getD,hj] using this) hm
 clear hm
 have HC:=Lib.hid hc
 clear hc
 go_enter Try.func102,Try.ntmps102
 go_wp2
 go_loop [3,9] (fun s i=>∃ k:Nat,k≤l.length∧i=.int .i64 k∧s=.int .i64 (sumW (l.take k))∧Hid (∀ j,j<k→wid (l.getD j 0)≠0)) (fun _ i=>l.length - (intOf i).toNat)
 case atStart=>exact ⟨0,by omega,rfl,rfl,fun j h=>absurd h (by omega)⟩
 case round =>
  obtain ⟨k,hk,rfl,rfl,H⟩:=hrel
  have hs:=sumW_le (l.take k)
  have hs2:(l.take k).length≤k:=List.length_take_le _ _
  have hlt:=hb k hk H.out
  obtain ⟨x,hx,hcell⟩:∃ x,Hid (l[k]=x)∧w.cell? ⟨b,off+k,none⟩=some (.int .i64 x):=⟨l[k],rfl,by rw [HC.out k hlt];simp [List.getD,hlt]⟩
  have hxd:Hid (l.getD k 0=x):=Lib.hid ((show l.getD k 0=l[k] by simp [List.getD,hlt]).trans hx.out)
  by_cases hz:wid x=0
  ·have hw:((wid x:Int) == 0)=true:=by rw [hz];rfl
   clear hz
   go_wp2_with (go_at_call 111;refine (width_any _ _).mono ?_;rintro e w' ⟨rfl,rfl⟩)
   go_ret
   exact ⟨rfl,rfl⟩
  ·have hw:((wid x:Int) == 0)=false:=by simpa using hz
   have hw8:=wid_le x
   have hsn:Hid (sumW (l.take (k+1))=sumW (l.take k)+wid x):=by rw [take_snoc' l k hlt,sumW_snoc,hx.out];exact rfl
   have H2:Hid (∀ j,j<k+1→wid (l.getD j 0)≠0):=fun j hj=>by
    rcases Nat.lt_or_ge j k with h1 | h1
    ·exact H.out j h1
    ·obtain rfl:j=k:=by omega
     rw [hxd.out];exact hz
   clear hz
   go_wp2_with (go_at_call 111;refine (width_any _ _).mono ?_;rintro e w' ⟨rfl,rfl⟩)
   go_round
   case rel=>exact ⟨k+1,by omega,by go_num,by rw [hsn.out];go_num,H2⟩
   case measure=>simp [intOf];omega
theorem size_nil (w:World):Calls Try.prog 102 #[.slice none 0 0] w fun e w'=>e=.returned (.int .i64 0)∧w=w':=by
 go_enter Try.func102,Try.ntmps102
 go_wp2
 go_loop [3,9] (fun s i=>i=.int .i64 0∧s=.int .i64 0) (fun _ _=>0)
 case atStart=>exact ⟨rfl,rfl⟩
 case round =>
  obtain ⟨rfl,rfl⟩:=hrel
  go_wp2
  go_ret
  exact ⟨rfl,rfl⟩
structure Tabs (w:World):Prop where
 c0:w.cell? ⟨1,0,none⟩=some (.int .u8 0)
 c1:w.cell? ⟨1,1,none⟩=some (.int .u8 1)
 c3:w.cell? ⟨1,3,none⟩=some (.int .u8 2)
 c7:w.cell? ⟨1,7,none⟩=some (.int .u8 3)
/-- The number that is laid: the length's mark in front. -/
def laidN (n:Int):Nat:=match wid n with
 | 1=>n.toNat
 | 2=>n.toNat+2 ^ 14
 | 4=>n.toNat+2 ^ 31
 | _=>n.toNat+3 * 2 ^ 62
/-- Its bytes, the highest first. -/
def encI (n:Int):List Int:=(List.range (wid n)).map fun j=>((laidN n / 2 ^ (8 * (wid n - 1 - j)) % 256:Nat):Int)
/-- The k-th byte from the end of a number's bytes. -/
def byt (L k:Nat):Int:=(L:Int) / 2 ^ (8 * k) % 256
def encL (W L:Nat):List Value:=(List.range W).map fun j=>.int .u8 (byt L (W - 1 - j))
theorem encL_snoc (W L k:Nat) (h:k+1≤W) (xs:List Value) :
  (xs ++ (List.range (W - (k+1))).map fun j=>Value.int .u8 (byt L (W - 1 - j))) ++ [.int .u8 (byt L k)]=xs ++ (List.range (W - k)).map fun j=>Value.int .u8 (byt L (W - 1 - j)):=by
 rw [show W - k=(W - (k+1))+1 by omega,List.range_succ,List.map_append,List.append_assoc]
 congr 3
 simp only [List.map_cons,List.map_nil]
 rw [show W - 1 - (W - (k+1))=k by omega]
/-- A number's bytes. -/
def encV (n:Int):List Value:=encL (wid n) (laidN n)
theorem encV_len (n:Int):(encV n).length=wid n:=by simp [encV,encL]
theorem or_add (n s k:Nat) (h:n<2 ^ k):n ||| s * 2 ^ k=n+s * 2 ^ k:=by
 have:=Nat.shiftLeft_add_eq_or_of_lt h s
 rw [Nat.shiftLeft_eq] at this
 rw [Nat.or_comm,← this,Nat.add_comm]
theorem wrap_u64_in (n:Int) (h:0≤n) (h2:n<18446744073709551616):IntKind.u64.wrap n=n:=by
 have:IntKind.u64.wrap n=n % 18446744073709551616:=rfl
 rw [this];omega
theorem wid_cases (n:Int) (h:wid n≠0):(wid n=1∧0≤n∧n<64)∨(wid n=2∧64≤n∧n<16384)∨(wid n=4∧16384≤n∧n<1073741824)∨(wid n=8∧1073741824≤n∧n≤4611686018427387903):=by
 unfold wid at h ⊢
 split at h
 ·exact absurd rfl h
 ·rename_i h0
  rw [if_neg h0]
  split
  ·left;exact ⟨rfl,by omega,by assumption⟩
  ·split
   ·right;left;exact ⟨rfl,by omega,by assumption⟩
   ·split
    ·right;right;left;exact ⟨rfl,by omega,by assumption⟩
    ·right;right;right;exact ⟨rfl,by omega,by omega⟩
theorem or_of (n:Int) (k s:Nat) (h0:0≤n) (h:n.toNat<2 ^ k) (h2:n<18446744073709551616) (h3:s * 2 ^ k<18446744073709551616):bits .or .u64 (IntKind.u64.wrap n) ((s * 2 ^ k:Nat):Int)=((n.toNat+s * 2 ^ k:Nat):Int):=by
 rw [wrap_u64_in n h0 h2]
 obtain ⟨m,rfl⟩:=Int.eq_ofNat_of_zero_le h0
 rw [u64_or_nat m _ (by omega) h3]
 simp only [Int.toNat_natCast] at h ⊢
 rw [or_add m s k h]
theorem ones_enc (n:Int):ones (encV n):=fun u hu=>by
 unfold encV encL at hu
 rw [List.mem_map] at hu
 obtain ⟨j,_,rfl⟩:=hu
 rfl
/-- What a call of Put with numbers that may be lays. -/
def encs (l:List Int):List Value:=l.flatMap encV
theorem encs_len (l:List Int):(encs l).length=sumW l:=by
 induction l with
 | nil=>rfl
 | cons n l ih=>simp only [encs,List.flatMap_cons,List.length_append,encV_len,sumW,List.map_cons,List.sum_cons] at ih ⊢;omega
theorem encs_snoc (l:List Int) (n:Int):encs (l ++ [n])=encs l ++ encV n:=by simp [encs]
theorem ones_encs (l:List Int):ones (encs l):=fun u hu=>by
 unfold encs at hu
 rw [List.mem_flatMap] at hu
 obtain ⟨n,_,h⟩:=hu
 exact ones_enc n u h
/-- Size of whatever list. -/
theorem size_any (l:List Int) (B:Nat) (A:Option Addr) (cap:Nat) (w:World) (hA:l.length=0→cap=0∧A=none∨∃ b off,A=some ⟨b,off,none⟩) (hx:Rd w B A l.length (ints l)) (hl:l.length<1000000000000000) :
  Calls Try.prog 102 #[.slice A l.length cap] w fun e w'=>e=.returned (.int .i64 (if allMay l then (sumW l:Int) else -1))∧w=w':=by
 have key:(∃ b off,A=some ⟨b,off,none⟩∧∀ j,j<l.length→w.cell? ⟨b,off+j,none⟩=some (.int .i64 (l.getD j 0)))→Calls Try.prog 102 #[.slice A l.length cap] w fun e w'=>e=.returned (.int .i64 (if allMay l then (sumW l:Int) else -1))∧w=w':=by
  rintro ⟨b,off,rfl,hc⟩
  by_cases hm:allMay l
  ·rw [if_pos hm];exact size_ok l b off cap w hl hc hm
  ·rw [if_neg hm];exact size_no l b off cap w hl hc hm
 rcases Nat.eq_zero_or_pos l.length with h0 | h0
 ·rcases hA h0 with ⟨rfl,rfl⟩ | ⟨b,off,rfl⟩
  ·have:l=[]:=List.eq_nil_of_length_eq_zero h0
   subst this
   rw [if_pos (show allMay [] from fun n hn=>by cases hn)]
   exact size_nil w
  ·exact key ⟨b,off,rfl,fun j hj=>by omega⟩
 ·obtain ⟨b,off,rfl,_,hc⟩:=hx.2 h0
  exact key ⟨b,off,rfl,fun j hj=>hc j _ (ints_get l j hj)⟩
theorem Tabs.below {w w':World} {B:Nat} (h:Tabs w) (hb:Below B w w') (hB:1<B):Tabs w' :=
 ⟨(hb.cell (p:=⟨1,0,none⟩) hB).trans h.c0,(hb.cell (p:=⟨1,1,none⟩) hB).trans h.c1,(hb.cell (p:=⟨1,3,none⟩) hB).trans h.c3,(hb.cell (p:=⟨1,7,none⟩) hB).trans h.c7⟩
theorem Tabs.lt {w:World} (h:Tabs w):1<w.heap.size:=World.block_lt_of_cell? w _ h.c0
theorem sumW_app (a b:List Int):sumW (a ++ b)=sumW a+sumW b:=by simp [sumW]
/-- A number's value: its first byte without the mark, then the others. -/
def valF (b0:Nat) (r:List Nat):Nat:=r.foldl (fun n c=>n * 256+c) (b0 % 64)
theorem i64_or_nat (a b:Nat) (ha:a<9223372036854775808) (hb:b<9223372036854775808):bits .or .i64 (a:Int) (b:Int)=((a ||| b:Nat):Int):=by
 have h:∀ a:Nat,a<9223372036854775808→(BitVec.ofInt 64 (a:Int)).toNat=a:=fun a ha=>by
  rw [BitVec.ofInt_natCast,BitVec.toNat_ofNat];exact Nat.mod_eq_of_lt (by omega)
 have hx:a ||| b<2 ^ 63:=Nat.or_lt_two_pow (by omega) (by omega)
 show IntKind.i64.wrap ((BitVec.ofInt 64 (a:Int) ||| BitVec.ofInt 64 (b:Int)).toNat:Int)=_
 rw [BitVec.toNat_or,h a ha,h b hb,IntKind.wrap_i64]
 omega
theorem valF_lt (b0:Nat):∀ (r:List Nat),(∀ c ∈ r,c<256)→valF b0 r<64 * 256 ^ r.length:=by
 have gen:∀ (r:List Nat) (n:Nat) (M:Nat),n<M→(∀ c ∈ r,c<256)→r.foldl (fun n c=>n * 256+c) n<M * 256 ^ r.length:=by
  intro r
  induction r with
  | nil=>intro n M h _;simpa using h
  | cons c r ih =>
    intro n M h hc
    have h1:=hc c (by simp)
    have:=ih (n * 256+c) (M * 256) (by omega) (fun d hd=>hc d (by simp [hd]))
    simp only [List.foldl_cons,List.length_cons]
    rw [Nat.pow_succ,Nat.mul_comm (256 ^ r.length),← Nat.mul_assoc]
    exact this
 exact fun r hr=>gen r (b0 % 64) 64 (Nat.mod_lt _ (by decide)) hr
theorem valF_snoc (b0:Nat) (r:List Nat) (c:Nat):valF b0 (r ++ [c])=valF b0 r * 256+c:=by simp [valF]
theorem or_byte (n c:Nat) (hn:n<36028797018963968) (hc:c<256):bits .or .i64 ((n:Int) * 256) (c:Int)=((n * 256+c:Nat):Int):=by
 have e:((n:Int) * 256)=((n * 256:Nat):Int):=by omega
 rw [e,i64_or_nat _ _ (by omega) (by omega)]
 have:=Nat.shiftLeft_add_eq_or_of_lt (show c<2 ^ 8 from hc) n
 rw [Nat.shiftLeft_eq] at this
 rw [← this]
theorem and63:∀ b:Fin 256,bits .and .u8 ((b.val:Nat):Int) 63=((b.val % 64:Nat):Int):=by decide +kernel
/-- How many bytes the number that begins so has. -/
def lenF (b0:Nat):Nat:=if b0 / 64=0 then 1 else if b0 / 64=1 then 2 else if b0 / 64=2 then 4 else 8
/-- The number in front, and its length; nothing: it is not all there. -/
def dec:List Nat→Option (Nat × Nat)
 | []=>none
 | b0 :: r=>if r.length+1<lenF b0 then none else some (valF b0 (r.take (lenF b0 - 1)),lenF b0)
theorem lenF_cases (b0:Nat) (h:b0<256):(b0 / 64=0∧lenF b0=1)∨(b0 / 64=1∧lenF b0=2)∨(b0 / 64=2∧lenF b0=4)∨(b0 / 64=3∧lenF b0=8):=by
 unfold lenF;(repeat' split) <;> omega
theorem dec_le {bs:List Nat} {v W:Nat} (h:dec bs=some (v,W)):0<W∧W≤bs.length∧W≤8:=by
 cases bs with
 | nil=>cases h
 | cons b0 r =>
   simp only [dec] at h
   split at h
   ·cases h
   ·rename_i hn
    simp only [Option.some.injEq,Prod.mk.injEq] at h
    have:0<lenF b0∧lenF b0≤8:=by unfold lenF;(repeat' split) <;> omega
    rw [← h.2]
    simp only [List.length_cons]
    omega
theorem dec_lt {bs:List Nat} {v W:Nat} (hb:∀ c ∈ bs,c<256) (h:dec bs=some (v,W)):v≤4611686018427387903:=by
 cases bs with
 | nil=>cases h
 | cons b0 r =>
   simp only [dec] at h
   split at h
   ·cases h
   ·rename_i hn
    simp only [Option.some.injEq,Prod.mk.injEq] at h
    have h1:=valF_lt b0 (r.take (lenF b0 - 1)) (fun c hc=>hb c (by simp [List.mem_of_mem_take hc]))
    have h2:(r.take (lenF b0 - 1)).length≤7:=by
     have:lenF b0≤8:=by unfold lenF;(repeat' split) <;> omega
     rw [List.length_take];omega
    have h3:256 ^ (r.take (lenF b0 - 1)).length≤256 ^ 7:=Nat.pow_le_pow_right (by decide) h2
    rw [← h.1]
    omega
theorem rd_one (w:World) (b:Nat) (x:Int) (hc:w.cell? ⟨b,0,none⟩=some (.int .i64 x)):Rd w (b+1) (some ⟨b,0,none⟩) 1 (ints [x]) :=
 ⟨rfl,fun _=>⟨b,0,rfl,by omega,fun j u hu=>by
  match j,hu with
  | 0,hu =>
    simp [ints] at hu
    subst hu
    exact hc⟩⟩
theorem size_one (x:Int) (b:Nat) (w:World) (hc:w.cell? ⟨b,0,none⟩=some (.int .i64 x)) (hx:wid x≠0) :
  Calls Try.prog 102 #[.slice (some ⟨b,0,none⟩) 1 1] w fun e w'=>e=.returned (.int .i64 (wid x))∧w=w':=by
 have h:=size_any [x] (b+1) (some ⟨b,0,none⟩) 1 w (fun h=>by cases h) (rd_one w b x hc) (by simp)
 rw [if_pos (show allMay [x] from fun n hn=>by simp at hn;subst hn;exact hx)] at h
 have e:sumW [x]=wid x:=by simp [sumW]
 rw [e] at h
 exact h
theorem dec_wid {bs:List Nat} {v W:Nat} (hb:∀ c ∈ bs,c<256) (h:dec bs=some (v,W)):wid (v:Int)≠0∧wid (v:Int)≤W:=by
 have h0:=dec_lt hb h
 cases bs with
 | nil=>cases h
 | cons b0 r =>
   simp only [dec] at h
   split at h
   ·cases h
   ·rename_i hn
    simp only [Option.some.injEq,Prod.mk.injEq] at h
    obtain ⟨hv,hW⟩:=h
    have h1:=valF_lt b0 (r.take (lenF b0 - 1)) (fun c hc=>hb c (by simp [List.mem_of_mem_take hc]))
    have hlen:(r.take (lenF b0 - 1)).length=lenF b0 - 1:=by rw [List.length_take];omega
    rw [hv,hlen] at h1
    rcases lenF_cases b0 (hb b0 (by simp)) with ⟨_,hl⟩ | ⟨_,hl⟩ | ⟨_,hl⟩ | ⟨_,hl⟩
    all_goals
     rw [hl] at h1 hW
     rw [← hW]
     unfold wid
     simp only [Nat.reduceSub,Nat.reducePow,Nat.reduceMul] at h1
     constructor
     ·(repeat' split) <;> omega
     ·(repeat' split) <;> omega
theorem wid_mono {x y:Int} (hx:wid x≠0) (hy:wid y≠0) (h:x≤y):wid x≤wid y:=by
 rcases wid_cases x hx with ⟨h1,h2,h3⟩ | ⟨h1,h2,h3⟩ | ⟨h1,h2,h3⟩ | ⟨h1,h2,h3⟩ <;> rcases wid_cases y hy with ⟨k1,k2,k3⟩ | ⟨k1,k2,k3⟩ | ⟨k1,k2,k3⟩ | ⟨k1,k2,k3⟩ <;> omega
theorem Tabs.alloc {w:World} (h:Tabs w) (o:Obj):Tabs (w.alloc o):=h.below ((Below.refl _ _).alloc (Nat.le_refl _) _) h.lt
theorem wid_may (n:Int):wid (mayF n)≠0:=by
 have:=mayF_in n
 unfold wid
 (repeat' split) <;> omega
/-- A number's bytes, the highest first. -/
def encB (n:Int):List Nat:=(List.range (wid n)).map fun j=>laidN n / 2 ^ (8 * (wid n - 1 - j)) % 256
theorem encB_len (n:Int):(encB n).length=wid n:=by simp [encB]
theorem encB_lt (n:Int):∀ c ∈ encB n,c<256:=fun c hc=>by
 simp only [encB,List.mem_map] at hc
 obtain ⟨j,_,rfl⟩:=hc
 exact Nat.mod_lt _ (by decide)
theorem encV_bv (n:Int):encV n=bv (encB n):=by
 unfold encV encL bv encB
 rw [List.map_map]
 refine List.map_congr_left fun j _=>?_
 simp only [Function.comp,byt]
 congr 1
theorem dig (m k:Nat):m / 2 ^ (k+8) * 256+m / 2 ^ k % 256=m / 2 ^ k:=by
 rw [Nat.pow_add,← Nat.div_div_eq_div_mul]
 exact Nat.div_add_mod' _ _
theorem ldig (m k t:Nat):(m+t * 256 * 2 ^ k) / 2 ^ k % 256=m / 2 ^ k % 256:=by
 rw [Nat.add_mul_div_right _ _ (Nat.two_pow_pos k)];omega
theorem dec_enc1 (m:Nat) (hw:wid (m:Int)=1) (h1:0≤(m:Int)) (h2:(m:Int)<64) (r:List Nat):dec (encB m ++ r)=some (m,1):=by
 have hL:laidN (m:Int)=m:=by simp [laidN,hw]
 have hb:lenF (m % 256)=1:=by unfold lenF;(repeat' split) <;> omega
 simp only [encB,hw,hL,List.range_succ,List.range_zero,List.nil_append,List.map_cons,List.map_nil,List.cons_append,Nat.sub_self,Nat.mul_zero,Nat.pow_zero,Nat.div_one,dec,hb]
 rw [if_neg (by omega)]
 simp [valF]
 omega
theorem dec_enc2 (m:Nat) (hw:wid (m:Int)=2) (h1:64≤(m:Int)) (h2:(m:Int)<16384) (r:List Nat):dec (encB m ++ r)=some (m,2):=by
 have hL:laidN (m:Int)=m+2 ^ 14:=by simp [laidN,hw]
 have hb:lenF ((m+2 ^ 14) / 2 ^ 8 % 256)=2:=by unfold lenF;(repeat' split) <;> omega
 simp only [encB,hw,hL,List.range_succ,List.range_zero,List.nil_append,List.map_cons,List.map_nil,List.cons_append,List.append_assoc,Nat.sub_self,Nat.mul_zero,Nat.pow_zero,Nat.div_one,Nat.reduceSub,Nat.reduceMul,dec,hb,List.length_cons]
 rw [if_neg (by omega)]
 simp [valF]
 omega
theorem dec_enc4 (m:Nat) (hw:wid (m:Int)=4) (h1:16384≤(m:Int)) (h2:(m:Int)<1073741824) (r:List Nat):dec (encB m ++ r)=some (m,4):=by
 have hL:laidN (m:Int)=m+2 ^ 31:=by simp [laidN,hw]
 have htop:(m+2 ^ 31) / 2 ^ 24 % 256=m / 2 ^ 24+128:=by omega
 have hb:lenF (m / 2 ^ 24+128)=4:=by unfold lenF;(repeat' split) <;> omega
 have h64:(m / 2 ^ 24+128) % 64=m / 2 ^ 24:=by omega
 have e:encB (m:Int)=[m / 2 ^ 24+128,m / 2 ^ 16 % 256,m / 2 ^ 8 % 256,m / 2 ^ 0 % 256]:=by
  have h2:=ldig m 16 (2 ^ 7)
  have h1:=ldig m 8 (2 ^ 15)
  have h0:=ldig m 0 (2 ^ 23)
  have r2:2 ^ 7 * 256 * 2 ^ 16=2 ^ 31:=by decide
  have r1:2 ^ 15 * 256 * 2 ^ 8=2 ^ 31:=by decide
  have r0:2 ^ 23 * 256 * 2 ^ 0=2 ^ 31:=by decide
  rw [r2] at h2
  rw [r1] at h1
  rw [r0] at h0
  have er:List.range 4=[0,1,2,3]:=by decide
  unfold encB
  rw [hw,hL,er]
  show [(m+2 ^ 31) / 2 ^ 24 % 256,(m+2 ^ 31) / 2 ^ 16 % 256,(m+2 ^ 31) / 2 ^ 8 % 256,(m+2 ^ 31) / 2 ^ 0 % 256]=_
  rw [htop,h2,h1,h0]
 rw [e]
 show dec ((m / 2 ^ 24+128) :: ([m / 2 ^ 16 % 256,m / 2 ^ 8 % 256,m / 2 ^ 0 % 256] ++ r))=_
 simp only [dec,hb]
 rw [if_neg (by simp only [List.length_append,List.length_cons,List.length_nil];omega)]
 have et:([m / 2 ^ 16 % 256,m / 2 ^ 8 % 256,m / 2 ^ 0 % 256] ++ r).take (4 - 1)=[m / 2 ^ 16 % 256,m / 2 ^ 8 % 256,m / 2 ^ 0 % 256]:=rfl
 rw [et]
 simp only [valF,List.foldl_cons,List.foldl_nil,h64]
 rw [dig m 16,dig m 8,dig m 0,Nat.pow_zero,Nat.div_one]
theorem dec_enc8 (m:Nat) (hw:wid (m:Int)=8) (h1:1073741824≤(m:Int)) (h2:(m:Int)≤4611686018427387903) (r:List Nat):dec (encB m ++ r)=some (m,8):=by
 have hL:laidN (m:Int)=m+3 * 2 ^ 62:=by simp [laidN,hw]
 have hm62:m<2 ^ 62:=by omega
 have htop:(m+3 * 2 ^ 62) / 2 ^ 56 % 256=m / 2 ^ 56+192:=by omega
 have hb:lenF (m / 2 ^ 56+192)=8:=by unfold lenF;(repeat' split) <;> omega
 have h64:(m / 2 ^ 56+192) % 64=m / 2 ^ 56:=by omega
 have e:encB (m:Int)=[m / 2 ^ 56+192,m / 2 ^ 48 % 256,m / 2 ^ 40 % 256,m / 2 ^ 32 % 256,m / 2 ^ 24 % 256,m / 2 ^ 16 % 256,m / 2 ^ 8 % 256,m / 2 ^ 0 % 256]:=by
  have h6:=ldig m 48 (3 * 2 ^ 6)
  have h5:=ldig m 40 (3 * 2 ^ 14)
  have h4:=ldig m 32 (3 * 2 ^ 22)
  have h3:=ldig m 24 (3 * 2 ^ 30)
  have h2:=ldig m 16 (3 * 2 ^ 38)
  have h1:=ldig m 8 (3 * 2 ^ 46)
  have h0:=ldig m 0 (3 * 2 ^ 54)
  have r6:3 * 2 ^ 6 * 256 * 2 ^ 48=3 * 2 ^ 62:=by decide
  have r5:3 * 2 ^ 14 * 256 * 2 ^ 40=3 * 2 ^ 62:=by decide
  have r4:3 * 2 ^ 22 * 256 * 2 ^ 32=3 * 2 ^ 62:=by decide
  have r3:3 * 2 ^ 30 * 256 * 2 ^ 24=3 * 2 ^ 62:=by decide
  have r2:3 * 2 ^ 38 * 256 * 2 ^ 16=3 * 2 ^ 62:=by decide
  have r1:3 * 2 ^ 46 * 256 * 2 ^ 8=3 * 2 ^ 62:=by decide
  have r0:3 * 2 ^ 54 * 256 * 2 ^ 0=3 * 2 ^ 62:=by decide
  rw [r6] at h6
  rw [r5] at h5
  rw [r4] at h4
  rw [r3] at h3
  rw [r2] at h2
  rw [r1] at h1
  rw [r0] at h0
  have er:List.range 8=[0,1,2,3,4,5,6,7]:=by decide
  unfold encB
  rw [hw,hL,er]
  show [(m+3 * 2 ^ 62) / 2 ^ 56 % 256,(m+3 * 2 ^ 62) / 2 ^ 48 % 256,(m+3 * 2 ^ 62) / 2 ^ 40 % 256,(m+3 * 2 ^ 62) / 2 ^ 32 % 256,(m+3 * 2 ^ 62) / 2 ^ 24 % 256,(m+3 * 2 ^ 62) / 2 ^ 16 % 256,(m+3 * 2 ^ 62) / 2 ^ 8 % 256,(m+3 * 2 ^ 62) / 2 ^ 0 % 256]=_
  rw [htop,h6,h5,h4,h3,h2,h1,h0]
 rw [e]
 show dec ((m / 2 ^ 56+192) :: ([m / 2 ^ 48 % 256,m / 2 ^ 40 % 256,m / 2 ^ 32 % 256,m / 2 ^ 24 % 256,m / 2 ^ 16 % 256,m / 2 ^ 8 % 256,m / 2 ^ 0 % 256] ++ r))=_
 simp only [dec,hb]
 rw [if_neg (by simp only [List.length_append,List.length_cons,List.length_nil];omega)]
 have et:([m / 2 ^ 48 % 256,m / 2 ^ 40 % 256,m / 2 ^ 32 % 256,m / 2 ^ 24 % 256,m / 2 ^ 16 % 256,m / 2 ^ 8 % 256,m / 2 ^ 0 % 256] ++ r).take (8 - 1)=[m / 2 ^ 48 % 256,m / 2 ^ 40 % 256,m / 2 ^ 32 % 256,m / 2 ^ 24 % 256,m / 2 ^ 16 % 256,m / 2 ^ 8 % 256,m / 2 ^ 0 % 256]:=rfl
 rw [et]
 simp only [valF,List.foldl_cons,List.foldl_nil,h64]
 rw [dig m 48,dig m 40,dig m 32,dig m 24,dig m 16,dig m 8,dig m 0,Nat.pow_zero,Nat.div_one]
theorem dec_enc (n:Int) (h:wid n≠0) (r:List Nat):dec (encB n ++ r)=some (n.toNat,wid n):=by
 obtain ⟨m,hm⟩:∃ m:Nat,n=m:=⟨n.toNat,by have:=wid_cases n h;omega⟩
 subst hm
 rcases wid_cases (m:Int) h with ⟨hw,h1,h2⟩ | ⟨hw,h1,h2⟩ | ⟨hw,h1,h2⟩ | ⟨hw,h1,h2⟩
 ·rw [hw];exact dec_enc1 m hw h1 h2 r
 ·rw [hw];exact dec_enc2 m hw h1 h2 r
 ·rw [hw];exact dec_enc4 m hw h1 h2 r
 ·rw [hw];exact dec_enc8 m hw h1 h2 r
def encsB (l:List Int):List Nat:=l.flatMap encB
theorem encs_bv (l:List Int):encs l=bv (encsB l):=by
 induction l with
 | nil=>rfl
 | cons n l ih=>simp only [encs,encsB,List.flatMap_cons] at ih ⊢;rw [ih,encV_bv];simp [bv]
theorem encsB_len (l:List Int):(encsB l).length=sumW l:=by
 have:=encs_len l
 rw [encs_bv] at this
 simpa [bv] using this
theorem encsB_lt (l:List Int):∀ c ∈ encsB l,c<256:=fun c hc=>by
 simp only [encsB,List.mem_flatMap] at hc
 obtain ⟨n,_,h⟩:=hc
 exact encB_lt n c h
end Go.Proofs.Ytoahkffdoaphlaa
