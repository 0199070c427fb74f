/- Joined texts. Conditions: as each theorem lists them. -/
import Derived.Test.YtccljifichaieaaDoorJ9
import Derived.Test.YtccljifichaieaaDoorJ9b
import Derived.OwnWalk
import Derived.Outline
set_option linter.unusedSimpArgs false
set_option linter.unusedVariables false
set_option maxRecDepth 100000
set_option maxHeartbeats 8000000
namespace Go.Proofs.YtccljifichaieaaDoor
open Go Go.RowKit
/-- The first q of k bytes of a number, the highest first. -/
def digs (x k q:Nat):List Nat:=(List.range q).map fun j=>x / 2 ^ (8 * (k - 1 - j)) % 256
theorem digs_snoc (x k q:Nat):digs x k (q+1)=digs x k q ++ [x / 2 ^ (8 * (k - 1 - q)) % 256]:=by simp [digs,List.range_succ]
theorem digs_len (x k q:Nat):(digs x k q).length=q:=by simp [digs]
theorem digs_lt (x k q:Nat):∀ c ∈ digs x k q,c<256:=fun c hc=>by
 simp only [digs,List.mem_map] at hc
 obtain ⟨j,_,rfl⟩:=hc
 exact Nat.mod_lt _ (by decide)
def valN (l:List Nat):Nat:=l.foldl (fun a c=>a * 256+c) 0
theorem valN_snoc (l:List Nat) (c:Nat):valN (l ++ [c])=valN l * 256+c:=by simp [valN]
theorem valN_digs (x k:Nat) (hk:k≤4) (hx:x<2 ^ (8 * k)):valN (digs x k k)=x:=by
 have hc:k=0∨k=1∨k=2∨k=3∨k=4:=by omega
 rcases hc with rfl | rfl | rfl | rfl | rfl
 all_goals
  simp [valN,digs,List.range_succ]
  try simp at hx
  omega
theorem valN_lt (l:List Nat) (h:∀ c ∈ l,c<256) (hl:l.length≤4):valN l<4294967296:=by
 match l,hl with
 | [],_=>decide
 | [a],_=>simp [valN] at h ⊢;omega
 | [a,b],_=>simp [valN] at h ⊢;omega
 | [a,b,c],_=>simp [valN] at h ⊢;omega
 | [a,b,c,d],_=>simp [valN] at h ⊢;omega
/-- How many bytes a number is cut to, as one of 1 to 4. -/
def kN (num acked:Int):Nat:=(Pn.bytesF num acked).toNat
theorem kN_eq (num acked:Int):Pn.bytesF num acked=(kN num acked:Int):=by
 unfold kN
 rcases Pn.bytesF_cases num acked with ⟨h,_⟩ | ⟨h,_⟩ | ⟨h,_⟩ | ⟨h,_⟩ <;> rw [h] <;> rfl
theorem kN_in (num acked:Int):1≤kN num acked∧kN num acked≤4:=by
 have h:=kN_eq num acked
 rcases Pn.bytesF_cases num acked with ⟨e,_⟩ | ⟨e,_⟩ | ⟨e,_⟩ | ⟨e,_⟩ <;> omega
theorem tn_pow (k:Nat) (h1:1≤k) (h4:k≤4):Pn.tn (k:Int)=((2 ^ (8 * k):Nat):Int):=by
 have hc:k=1∨k=2∨k=3∨k=4:=by omega
 rcases hc with rfl | rfl | rfl | rfl <;> rfl
/-- The number, cut. -/
def cutN (num:Int) (k:Nat):Nat:=(Pn.cutF num (k:Int)).toNat
theorem cutN_eq (num:Int) (k:Nat):Pn.cutF num (k:Int)=(cutN num k:Int):=by
 have:=(Pn.cutF_in num (k:Int)).1
 unfold cutN
 omega
theorem cutN_lt (num:Int) (k:Nat) (h1:1≤k) (h4:k≤4):cutN num k<2 ^ (8 * k):=by
 have:=(Pn.cutF_in num (k:Int)).2
 rw [tn_pow k h1 h4,cutN_eq] at this
 exact Int.ofNat_lt.1 this
theorem cutN_32 (num:Int) (k:Nat) (h1:1≤k) (h4:k≤4):cutN num k<4294967296 :=
 Nat.lt_of_lt_of_le (cutN_lt num k h1 h4) (by
  have hc:k=1∨k=2∨k=3∨k=4:=by omega
  rcases hc with rfl | rfl | rfl | rfl <;> decide)
def headN (num:Int) (k:Nat):List Nat:=(63+k) :: digs (cutN num k) k k
theorem headN_len (num:Int) (k:Nat):(headN num k).length=k+1:=by simp [headN,digs_len]
theorem headN_lt (num:Int) (k:Nat) (h4:k≤4):∀ c ∈ headN num k,c<256:=fun c hc=>by
 unfold headN at hc
 rcases List.mem_cons.1 hc with rfl | h
 ·omega
 ·exact digs_lt _ _ _ c h
/-- A packet's bytes. -/
def packN (key:Nat) (num acked:Int) (body:List Nat):List Nat:=headN num (kN num acked) ++ Sl.closeF key num (headN num (kN num acked)) body
theorem packN_len (key:Nat) (num acked:Int) (body:List Nat):(packN key num acked body).length=kN num acked+9+body.length:=by
 rw [packN,List.length_append,headN_len,Sl.closeF_len];omega
theorem headSize_any (k:Int) (w:World) (h0:0≤k) (h1:k≤1000) :
  Calls Tryd.prog 28 #[.int .i64 k] w fun e w'=>e=.returned (.int .i64 (1+k))∧w=w':=by
 go_enter Tryd.func28,Tryd.ntmps28
 go_wp2
 go_ret
 exact ⟨rfl,rfl⟩
theorem room_any (n a:Int) (w:World) (h1:-9223372036854775808≤a) (h2:n≤9223372036854775807) :
  Calls Tryd.prog 9 #[.int .i64 n,.int .i64 a] w fun e w'=>e=.returned (.int .i64 (231 - (kN n a:Int)))∧w=w':=by
 have HB:=Lib.hid (fun W=>Pn.bytes_at n a (kN n a) (kN_eq n a) W h1 h2)
 obtain ⟨k1,k4⟩:=kN_in n a
 obtain ⟨k,hk⟩:∃ k,kN n a=k:=⟨_,rfl⟩
 rw [hk] at HB k1 k4 ⊢
 have HS:=Lib.hid (fun W=>headSize_any (k:Int) W (by omega) (by omega))
 clear hk
 go_enter Tryd.func9,Tryd.ntmps9
 go_wp2_with fail
 refine (HB.out _).mono ?_;rintro e w' ⟨rfl,rfl⟩
 go_wp2_with fail
 refine (HS.out _).mono ?_;rintro e w' ⟨rfl,rfl⟩
 go_wp2_with fail
 have e:(240:Int) - (1+(k:Int)) - 8=231 - (k:Int):=by omega
 rw [← e]
 go_ret
 exact ⟨rfl,rfl⟩
theorem layHead_any (num:Int) (k:Nat) (w:World) (h1:1≤k) (h4:k≤4) :
  Calls Tryd.prog 22 #[.int .i64 num,.int .i64 (k:Int)] w fun e w'=>∃ v',e=.returned v'∧w'.ownsRow w.heap.size 5 1 v' (k+1) (bv (headN num k))∧Below w.heap.size w w':=by
 have hx32:=cutN_32 num k h1 h4
 have HC:=fun W=>Pn.cut_at num (k:Int) (cutN num k) (cutN_eq num k) W
 unfold headN
 obtain ⟨x,hx⟩:∃ x,cutN num k=x:=⟨_,rfl⟩
 rw [hx] at hx32 HC ⊢
 have HC:=Lib.hid HC
 clear hx
 obtain ⟨i0,hi,hz0,hz1,hz2⟩:=info_parts infoB
 have HI:=Lib.hid (And.intro hi (And.intro hz0 (And.intro hz1 hz2)))
 have hmk:=fun W=>run_make (P:=Tryd.prog) W 24 5 i0 (.int .u8 0) Tryd.underlying24 hi hz0 .i64 .i64 0 240 (by omega) (by omega) (by rw [hz2];omega) (by omega)
 simp only [hz1,Int.toNat_natCast,Int.toNat_zero,Nat.mul_one,show (240:Int).toNat=240 from rfl] at hmk
 clear hi hz0 hz1 hz2
 have HS:Hid ((madeCells (Value.int .u8 0).cells 240).size=240):=size_madeCells _ _
 have hc:k=1∨k=2∨k=3∨k=4:=by omega
 clear h1 h4
 rcases hc with rfl | rfl | rfl | rfl
 ·go_enter Tryd.func22,Tryd.ntmps22
  go_wp2_with fail
  refine (HC.out _).mono ?_;rintro e w' ⟨rfl,rfl⟩
  go_wp2_with (at_builtin;refine wpList_app _ rfl (.tmp 11) (.tmp 16) 24 rfl w.heap.size 5 i0 (.int .u8 0) 1 1 Tryd.underlying24 HI.out.1 HI.out.2.1 HI.out.2.2.1 HI.out.2.2.2 rfl (by decide) (.slice (some ⟨w.heap.size,0,none⟩) 0 240) 0 [] rfl ((World.ownsRow_made w _ 240 (Nat.le_refl _) ?c1 ?c2).alloc _) (w.heap.size+2) (some ⟨w.heap.size+1,0,none⟩) 1 1 _ rfl (rd_new _ _ _ _ _ _ _ (by simp) (by simp) rfl rfl) ?c3 ?c4 ?c5 ?c6 ?_)
  case c1=>unfold maxLen;omega
  case c2=>rw [size_madeCells]
  case c3=>simp [ones,Value.oneCell']
  case c4=>unfold maxLen;omega
  case c5=>omega
  case c6=>simp only [World.size_alloc];omega
  intro v1 w1 hown1 hgrow1
  have HN0:Hid (w1.ownsRow w.heap.size 5 1 v1 1 (bv ((63+1) :: digs x 1 0))∧Below w.heap.size w w1):=by
   exact ⟨hown1,(((Below.refl _ _).alloc (Nat.le_refl _) _).alloc (by simp) _).grown hgrow1 (by simp only [World.size_alloc];omega) (fun g hg=>by simp [Value.ownBlock] at hg;omega)⟩
  clear hown1 hgrow1
  go_wp2
  go_loopw [6,7] (fun v i wr=>∃ q:Nat,q≤1∧i=.int .i64 (0 - (q:Int))∧Hid (wr.ownsRow w.heap.size 5 1 v (q+1) (bv ((63+1) :: digs x 1 q))∧Below w.heap.size w wr)) (fun _ i _=>(intOf i+1).toNat)
  case atStart=>exact ⟨0,by omega,rfl,HN0⟩
  case round =>
   obtain ⟨q,hq,rfl,HK⟩:=hrel
   have hcase:q=0∨q=1:=by omega
   clear hq
   rcases hcase with rfl | rfl
   ·have hF:Hid ((x:Int) % 256=((x / 2 ^ (8 * (1 - 1 - 0)) % 256:Nat):Int)):=by show _=_;omega
    obtain ⟨Ak,ck,ek,_,_,_,_⟩:=own_form HK.out.1
    subst ek
    have hbk:Hid (w.heap.size≤wr.heap.size):=HK.out.2.size
    have hbk2:Hid (w.heap.size≤(wr.alloc (.cells #[.int .u8 ((x:Int) % 256)] 5)).heap.size):=by show _≤_;simp only [World.size_alloc];exact Nat.le_trans hbk.out (by omega)
    go_wp2_with (at_builtin;refine wpList_app _ rfl (.tmp 24) (.tmp 30) 24 rfl w.heap.size 5 i0 (.int .u8 0) 1 1 Tryd.underlying24 HI.out.1 HI.out.2.1 HI.out.2.2.1 HI.out.2.2.2 rfl (by decide) (.slice Ak (0+1) ck) (0+1) (bv ((63+1) :: digs x 1 0)) rfl (HK.out.1.alloc _) (wr.heap.size+1) (some ⟨wr.heap.size,0,none⟩) 1 1 [.int .u8 ((x:Int) % 256)] rfl (rd_new _ _ _ _ _ _ _ rfl (by omega) rfl rfl) (by simp [ones,Value.oneCell']) (by unfold maxLen;omega) (by omega) hbk2.out ?_)
    intro v2 w2 hown1 hgrow1
    have HN:Hid (w2.ownsRow w.heap.size 5 1 v2 (0+1+1) (bv ((63+1) :: digs x 1 (0+1)))∧Below w.heap.size w w2):=by
     refine ⟨?_,(HK.out.2.alloc hbk.out _).grown hgrow1 hbk2.out (fun g hg=>(HK.out.1.lt g hg).1)⟩
     rw [digs_snoc,← List.cons_append,bv_app,show bv [x / 2 ^ (8 * (1 - 1 - 0)) % 256]=[.int .u8 ((x:Int) % 256)] by rw [hF.out];rfl]
     exact hown1
    clear hown1 hgrow1
    go_wp2
    go_roundw
    case rel=>exact ⟨0+1,by omega,by go_num,HN⟩
    case measure=>simp [intOf]
   ·go_wp2
    go_ret
    exact ⟨_,rfl,HK.out⟩
 ·go_enter Tryd.func22,Tryd.ntmps22
  go_wp2_with fail
  refine (HC.out _).mono ?_;rintro e w' ⟨rfl,rfl⟩
  go_wp2_with (at_builtin;refine wpList_app _ rfl (.tmp 11) (.tmp 16) 24 rfl w.heap.size 5 i0 (.int .u8 0) 1 1 Tryd.underlying24 HI.out.1 HI.out.2.1 HI.out.2.2.1 HI.out.2.2.2 rfl (by decide) (.slice (some ⟨w.heap.size,0,none⟩) 0 240) 0 [] rfl ((World.ownsRow_made w _ 240 (Nat.le_refl _) ?c1 ?c2).alloc _) (w.heap.size+2) (some ⟨w.heap.size+1,0,none⟩) 1 1 _ rfl (rd_new _ _ _ _ _ _ _ (by simp) (by simp) rfl rfl) ?c3 ?c4 ?c5 ?c6 ?_)
  case c1=>unfold maxLen;omega
  case c2=>rw [size_madeCells]
  case c3=>simp [ones,Value.oneCell']
  case c4=>unfold maxLen;omega
  case c5=>omega
  case c6=>simp only [World.size_alloc];omega
  intro v1 w1 hown1 hgrow1
  have HN0:Hid (w1.ownsRow w.heap.size 5 1 v1 1 (bv ((63+2) :: digs x 2 0))∧Below w.heap.size w w1):=by
   exact ⟨hown1,(((Below.refl _ _).alloc (Nat.le_refl _) _).alloc (by simp) _).grown hgrow1 (by simp only [World.size_alloc];omega) (fun g hg=>by simp [Value.ownBlock] at hg;omega)⟩
  clear hown1 hgrow1
  go_wp2
  go_loopw [6,7] (fun v i wr=>∃ q:Nat,q≤2∧i=.int .i64 (1 - (q:Int))∧Hid (wr.ownsRow w.heap.size 5 1 v (q+1) (bv ((63+2) :: digs x 2 q))∧Below w.heap.size w wr)) (fun _ i _=>(intOf i+1).toNat)
  case atStart=>exact ⟨0,by omega,rfl,HN0⟩
  case round =>
   obtain ⟨q,hq,rfl,HK⟩:=hrel
   have hcase:q=0∨q=1∨q=2:=by omega
   clear hq
   rcases hcase with rfl | rfl | rfl
   ·have hF:Hid ((x:Int) / 256 % 256=((x / 2 ^ (8 * (2 - 1 - 0)) % 256:Nat):Int)):=by show _=_;omega
    obtain ⟨Ak,ck,ek,_,_,_,_⟩:=own_form HK.out.1
    subst ek
    have hbk:Hid (w.heap.size≤wr.heap.size):=HK.out.2.size
    have hbk2:Hid (w.heap.size≤(wr.alloc (.cells #[.int .u8 ((x:Int) / 256 % 256)] 5)).heap.size):=by show _≤_;simp only [World.size_alloc];exact Nat.le_trans hbk.out (by omega)
    go_wp2_with (at_builtin;refine wpList_app _ rfl (.tmp 24) (.tmp 30) 24 rfl w.heap.size 5 i0 (.int .u8 0) 1 1 Tryd.underlying24 HI.out.1 HI.out.2.1 HI.out.2.2.1 HI.out.2.2.2 rfl (by decide) (.slice Ak (0+1) ck) (0+1) (bv ((63+2) :: digs x 2 0)) rfl (HK.out.1.alloc _) (wr.heap.size+1) (some ⟨wr.heap.size,0,none⟩) 1 1 [.int .u8 ((x:Int) / 256 % 256)] rfl (rd_new _ _ _ _ _ _ _ rfl (by omega) rfl rfl) (by simp [ones,Value.oneCell']) (by unfold maxLen;omega) (by omega) hbk2.out ?_)
    intro v2 w2 hown1 hgrow1
    have HN:Hid (w2.ownsRow w.heap.size 5 1 v2 (0+1+1) (bv ((63+2) :: digs x 2 (0+1)))∧Below w.heap.size w w2):=by
     refine ⟨?_,(HK.out.2.alloc hbk.out _).grown hgrow1 hbk2.out (fun g hg=>(HK.out.1.lt g hg).1)⟩
     rw [digs_snoc,← List.cons_append,bv_app,show bv [x / 2 ^ (8 * (2 - 1 - 0)) % 256]=[.int .u8 ((x:Int) / 256 % 256)] by rw [hF.out];rfl]
     exact hown1
    clear hown1 hgrow1
    go_wp2
    go_roundw
    case rel=>exact ⟨0+1,by omega,by go_num,HN⟩
    case measure=>simp [intOf]
   ·have hF:Hid ((x:Int) % 256=((x / 2 ^ (8 * (2 - 1 - 1)) % 256:Nat):Int)):=by show _=_;omega
    obtain ⟨Ak,ck,ek,_,_,_,_⟩:=own_form HK.out.1
    subst ek
    have hbk:Hid (w.heap.size≤wr.heap.size):=HK.out.2.size
    have hbk2:Hid (w.heap.size≤(wr.alloc (.cells #[.int .u8 ((x:Int) % 256)] 5)).heap.size):=by show _≤_;simp only [World.size_alloc];exact Nat.le_trans hbk.out (by omega)
    go_wp2_with (at_builtin;refine wpList_app _ rfl (.tmp 24) (.tmp 30) 24 rfl w.heap.size 5 i0 (.int .u8 0) 1 1 Tryd.underlying24 HI.out.1 HI.out.2.1 HI.out.2.2.1 HI.out.2.2.2 rfl (by decide) (.slice Ak (1+1) ck) (1+1) (bv ((63+2) :: digs x 2 1)) rfl (HK.out.1.alloc _) (wr.heap.size+1) (some ⟨wr.heap.size,0,none⟩) 1 1 [.int .u8 ((x:Int) % 256)] rfl (rd_new _ _ _ _ _ _ _ rfl (by omega) rfl rfl) (by simp [ones,Value.oneCell']) (by unfold maxLen;omega) (by omega) hbk2.out ?_)
    intro v2 w2 hown1 hgrow1
    have HN:Hid (w2.ownsRow w.heap.size 5 1 v2 (1+1+1) (bv ((63+2) :: digs x 2 (1+1)))∧Below w.heap.size w w2):=by
     refine ⟨?_,(HK.out.2.alloc hbk.out _).grown hgrow1 hbk2.out (fun g hg=>(HK.out.1.lt g hg).1)⟩
     rw [digs_snoc,← List.cons_append,bv_app,show bv [x / 2 ^ (8 * (2 - 1 - 1)) % 256]=[.int .u8 ((x:Int) % 256)] by rw [hF.out];rfl]
     exact hown1
    clear hown1 hgrow1
    go_wp2
    go_roundw
    case rel=>exact ⟨1+1,by omega,by go_num,HN⟩
    case measure=>simp [intOf]
   ·go_wp2
    go_ret
    exact ⟨_,rfl,HK.out⟩
 ·go_enter Tryd.func22,Tryd.ntmps22
  go_wp2_with fail
  refine (HC.out _).mono ?_;rintro e w' ⟨rfl,rfl⟩
  go_wp2_with (at_builtin;refine wpList_app _ rfl (.tmp 11) (.tmp 16) 24 rfl w.heap.size 5 i0 (.int .u8 0) 1 1 Tryd.underlying24 HI.out.1 HI.out.2.1 HI.out.2.2.1 HI.out.2.2.2 rfl (by decide) (.slice (some ⟨w.heap.size,0,none⟩) 0 240) 0 [] rfl ((World.ownsRow_made w _ 240 (Nat.le_refl _) ?c1 ?c2).alloc _) (w.heap.size+2) (some ⟨w.heap.size+1,0,none⟩) 1 1 _ rfl (rd_new _ _ _ _ _ _ _ (by simp) (by simp) rfl rfl) ?c3 ?c4 ?c5 ?c6 ?_)
  case c1=>unfold maxLen;omega
  case c2=>rw [size_madeCells]
  case c3=>simp [ones,Value.oneCell']
  case c4=>unfold maxLen;omega
  case c5=>omega
  case c6=>simp only [World.size_alloc];omega
  intro v1 w1 hown1 hgrow1
  have HN0:Hid (w1.ownsRow w.heap.size 5 1 v1 1 (bv ((63+3) :: digs x 3 0))∧Below w.heap.size w w1):=by
   exact ⟨hown1,(((Below.refl _ _).alloc (Nat.le_refl _) _).alloc (by simp) _).grown hgrow1 (by simp only [World.size_alloc];omega) (fun g hg=>by simp [Value.ownBlock] at hg;omega)⟩
  clear hown1 hgrow1
  go_wp2
  go_loopw [6,7] (fun v i wr=>∃ q:Nat,q≤3∧i=.int .i64 (2 - (q:Int))∧Hid (wr.ownsRow w.heap.size 5 1 v (q+1) (bv ((63+3) :: digs x 3 q))∧Below w.heap.size w wr)) (fun _ i _=>(intOf i+1).toNat)
  case atStart=>exact ⟨0,by omega,rfl,HN0⟩
  case round =>
   obtain ⟨q,hq,rfl,HK⟩:=hrel
   have hcase:q=0∨q=1∨q=2∨q=3:=by omega
   clear hq
   rcases hcase with rfl | rfl | rfl | rfl
   ·have hF:Hid ((x:Int) / 65536 % 256=((x / 2 ^ (8 * (3 - 1 - 0)) % 256:Nat):Int)):=by show _=_;omega
    obtain ⟨Ak,ck,ek,_,_,_,_⟩:=own_form HK.out.1
    subst ek
    have hbk:Hid (w.heap.size≤wr.heap.size):=HK.out.2.size
    have hbk2:Hid (w.heap.size≤(wr.alloc (.cells #[.int .u8 ((x:Int) / 65536 % 256)] 5)).heap.size):=by show _≤_;simp only [World.size_alloc];exact Nat.le_trans hbk.out (by omega)
    go_wp2_with (at_builtin;refine wpList_app _ rfl (.tmp 24) (.tmp 30) 24 rfl w.heap.size 5 i0 (.int .u8 0) 1 1 Tryd.underlying24 HI.out.1 HI.out.2.1 HI.out.2.2.1 HI.out.2.2.2 rfl (by decide) (.slice Ak (0+1) ck) (0+1) (bv ((63+3) :: digs x 3 0)) rfl (HK.out.1.alloc _) (wr.heap.size+1) (some ⟨wr.heap.size,0,none⟩) 1 1 [.int .u8 ((x:Int) / 65536 % 256)] rfl (rd_new _ _ _ _ _ _ _ rfl (by omega) rfl rfl) (by simp [ones,Value.oneCell']) (by unfold maxLen;omega) (by omega) hbk2.out ?_)
    intro v2 w2 hown1 hgrow1
    have HN:Hid (w2.ownsRow w.heap.size 5 1 v2 (0+1+1) (bv ((63+3) :: digs x 3 (0+1)))∧Below w.heap.size w w2):=by
     refine ⟨?_,(HK.out.2.alloc hbk.out _).grown hgrow1 hbk2.out (fun g hg=>(HK.out.1.lt g hg).1)⟩
     rw [digs_snoc,← List.cons_append,bv_app,show bv [x / 2 ^ (8 * (3 - 1 - 0)) % 256]=[.int .u8 ((x:Int) / 65536 % 256)] by rw [hF.out];rfl]
     exact hown1
    clear hown1 hgrow1
    go_wp2
    go_roundw
    case rel=>exact ⟨0+1,by omega,by go_num,HN⟩
    case measure=>simp [intOf]
   ·have hF:Hid ((x:Int) / 256 % 256=((x / 2 ^ (8 * (3 - 1 - 1)) % 256:Nat):Int)):=by show _=_;omega
    obtain ⟨Ak,ck,ek,_,_,_,_⟩:=own_form HK.out.1
    subst ek
    have hbk:Hid (w.heap.size≤wr.heap.size):=HK.out.2.size
    have hbk2:Hid (w.heap.size≤(wr.alloc (.cells #[.int .u8 ((x:Int) / 256 % 256)] 5)).heap.size):=by show _≤_;simp only [World.size_alloc];exact Nat.le_trans hbk.out (by omega)
    go_wp2_with (at_builtin;refine wpList_app _ rfl (.tmp 24) (.tmp 30) 24 rfl w.heap.size 5 i0 (.int .u8 0) 1 1 Tryd.underlying24 HI.out.1 HI.out.2.1 HI.out.2.2.1 HI.out.2.2.2 rfl (by decide) (.slice Ak (1+1) ck) (1+1) (bv ((63+3) :: digs x 3 1)) rfl (HK.out.1.alloc _) (wr.heap.size+1) (some ⟨wr.heap.size,0,none⟩) 1 1 [.int .u8 ((x:Int) / 256 % 256)] rfl (rd_new _ _ _ _ _ _ _ rfl (by omega) rfl rfl) (by simp [ones,Value.oneCell']) (by unfold maxLen;omega) (by omega) hbk2.out ?_)
    intro v2 w2 hown1 hgrow1
    have HN:Hid (w2.ownsRow w.heap.size 5 1 v2 (1+1+1) (bv ((63+3) :: digs x 3 (1+1)))∧Below w.heap.size w w2):=by
     refine ⟨?_,(HK.out.2.alloc hbk.out _).grown hgrow1 hbk2.out (fun g hg=>(HK.out.1.lt g hg).1)⟩
     rw [digs_snoc,← List.cons_append,bv_app,show bv [x / 2 ^ (8 * (3 - 1 - 1)) % 256]=[.int .u8 ((x:Int) / 256 % 256)] by rw [hF.out];rfl]
     exact hown1
    clear hown1 hgrow1
    go_wp2
    go_roundw
    case rel=>exact ⟨1+1,by omega,by go_num,HN⟩
    case measure=>simp [intOf]
   ·have hF:Hid ((x:Int) % 256=((x / 2 ^ (8 * (3 - 1 - 2)) % 256:Nat):Int)):=by show _=_;omega
    obtain ⟨Ak,ck,ek,_,_,_,_⟩:=own_form HK.out.1
    subst ek
    have hbk:Hid (w.heap.size≤wr.heap.size):=HK.out.2.size
    have hbk2:Hid (w.heap.size≤(wr.alloc (.cells #[.int .u8 ((x:Int) % 256)] 5)).heap.size):=by show _≤_;simp only [World.size_alloc];exact Nat.le_trans hbk.out (by omega)
    go_wp2_with (at_builtin;refine wpList_app _ rfl (.tmp 24) (.tmp 30) 24 rfl w.heap.size 5 i0 (.int .u8 0) 1 1 Tryd.underlying24 HI.out.1 HI.out.2.1 HI.out.2.2.1 HI.out.2.2.2 rfl (by decide) (.slice Ak (2+1) ck) (2+1) (bv ((63+3) :: digs x 3 2)) rfl (HK.out.1.alloc _) (wr.heap.size+1) (some ⟨wr.heap.size,0,none⟩) 1 1 [.int .u8 ((x:Int) % 256)] rfl (rd_new _ _ _ _ _ _ _ rfl (by omega) rfl rfl) (by simp [ones,Value.oneCell']) (by unfold maxLen;omega) (by omega) hbk2.out ?_)
    intro v2 w2 hown1 hgrow1
    have HN:Hid (w2.ownsRow w.heap.size 5 1 v2 (2+1+1) (bv ((63+3) :: digs x 3 (2+1)))∧Below w.heap.size w w2):=by
     refine ⟨?_,(HK.out.2.alloc hbk.out _).grown hgrow1 hbk2.out (fun g hg=>(HK.out.1.lt g hg).1)⟩
     rw [digs_snoc,← List.cons_append,bv_app,show bv [x / 2 ^ (8 * (3 - 1 - 2)) % 256]=[.int .u8 ((x:Int) % 256)] by rw [hF.out];rfl]
     exact hown1
    clear hown1 hgrow1
    go_wp2
    go_roundw
    case rel=>exact ⟨2+1,by omega,by go_num,HN⟩
    case measure=>simp [intOf]
   ·go_wp2
    go_ret
    exact ⟨_,rfl,HK.out⟩
 ·go_enter Tryd.func22,Tryd.ntmps22
  go_wp2_with fail
  refine (HC.out _).mono ?_;rintro e w' ⟨rfl,rfl⟩
  go_wp2_with (at_builtin;refine wpList_app _ rfl (.tmp 11) (.tmp 16) 24 rfl w.heap.size 5 i0 (.int .u8 0) 1 1 Tryd.underlying24 HI.out.1 HI.out.2.1 HI.out.2.2.1 HI.out.2.2.2 rfl (by decide) (.slice (some ⟨w.heap.size,0,none⟩) 0 240) 0 [] rfl ((World.ownsRow_made w _ 240 (Nat.le_refl _) ?c1 ?c2).alloc _) (w.heap.size+2) (some ⟨w.heap.size+1,0,none⟩) 1 1 _ rfl (rd_new _ _ _ _ _ _ _ (by simp) (by simp) rfl rfl) ?c3 ?c4 ?c5 ?c6 ?_)
  case c1=>unfold maxLen;omega
  case c2=>rw [size_madeCells]
  case c3=>simp [ones,Value.oneCell']
  case c4=>unfold maxLen;omega
  case c5=>omega
  case c6=>simp only [World.size_alloc];omega
  intro v1 w1 hown1 hgrow1
  have HN0:Hid (w1.ownsRow w.heap.size 5 1 v1 1 (bv ((63+4) :: digs x 4 0))∧Below w.heap.size w w1):=by
   exact ⟨hown1,(((Below.refl _ _).alloc (Nat.le_refl _) _).alloc (by simp) _).grown hgrow1 (by simp only [World.size_alloc];omega) (fun g hg=>by simp [Value.ownBlock] at hg;omega)⟩
  clear hown1 hgrow1
  go_wp2
  go_loopw [6,7] (fun v i wr=>∃ q:Nat,q≤4∧i=.int .i64 (3 - (q:Int))∧Hid (wr.ownsRow w.heap.size 5 1 v (q+1) (bv ((63+4) :: digs x 4 q))∧Below w.heap.size w wr)) (fun _ i _=>(intOf i+1).toNat)
  case atStart=>exact ⟨0,by omega,rfl,HN0⟩
  case round =>
   obtain ⟨q,hq,rfl,HK⟩:=hrel
   have hcase:q=0∨q=1∨q=2∨q=3∨q=4:=by omega
   clear hq
   rcases hcase with rfl | rfl | rfl | rfl | rfl
   ·have hF:Hid ((x:Int) / 16777216=((x / 2 ^ (8 * (4 - 1 - 0)) % 256:Nat):Int)):=by show _=_;omega
    obtain ⟨Ak,ck,ek,_,_,_,_⟩:=own_form HK.out.1
    subst ek
    have hbk:Hid (w.heap.size≤wr.heap.size):=HK.out.2.size
    have hbk2:Hid (w.heap.size≤(wr.alloc (.cells #[.int .u8 ((x:Int) / 16777216)] 5)).heap.size):=by show _≤_;simp only [World.size_alloc];exact Nat.le_trans hbk.out (by omega)
    go_wp2_with (at_builtin;refine wpList_app _ rfl (.tmp 24) (.tmp 30) 24 rfl w.heap.size 5 i0 (.int .u8 0) 1 1 Tryd.underlying24 HI.out.1 HI.out.2.1 HI.out.2.2.1 HI.out.2.2.2 rfl (by decide) (.slice Ak (0+1) ck) (0+1) (bv ((63+4) :: digs x 4 0)) rfl (HK.out.1.alloc _) (wr.heap.size+1) (some ⟨wr.heap.size,0,none⟩) 1 1 [.int .u8 ((x:Int) / 16777216)] rfl (rd_new _ _ _ _ _ _ _ rfl (by omega) rfl rfl) (by simp [ones,Value.oneCell']) (by unfold maxLen;omega) (by omega) hbk2.out ?_)
    intro v2 w2 hown1 hgrow1
    have HN:Hid (w2.ownsRow w.heap.size 5 1 v2 (0+1+1) (bv ((63+4) :: digs x 4 (0+1)))∧Below w.heap.size w w2):=by
     refine ⟨?_,(HK.out.2.alloc hbk.out _).grown hgrow1 hbk2.out (fun g hg=>(HK.out.1.lt g hg).1)⟩
     rw [digs_snoc,← List.cons_append,bv_app,show bv [x / 2 ^ (8 * (4 - 1 - 0)) % 256]=[.int .u8 ((x:Int) / 16777216)] by rw [hF.out];rfl]
     exact hown1
    clear hown1 hgrow1
    go_wp2
    go_roundw
    case rel=>exact ⟨0+1,by omega,by go_num,HN⟩
    case measure=>simp [intOf]
   ·have hF:Hid ((x:Int) / 65536 % 256=((x / 2 ^ (8 * (4 - 1 - 1)) % 256:Nat):Int)):=by show _=_;omega
    obtain ⟨Ak,ck,ek,_,_,_,_⟩:=own_form HK.out.1
    subst ek
    have hbk:Hid (w.heap.size≤wr.heap.size):=HK.out.2.size
    have hbk2:Hid (w.heap.size≤(wr.alloc (.cells #[.int .u8 ((x:Int) / 65536 % 256)] 5)).heap.size):=by show _≤_;simp only [World.size_alloc];exact Nat.le_trans hbk.out (by omega)
    go_wp2_with (at_builtin;refine wpList_app _ rfl (.tmp 24) (.tmp 30) 24 rfl w.heap.size 5 i0 (.int .u8 0) 1 1 Tryd.underlying24 HI.out.1 HI.out.2.1 HI.out.2.2.1 HI.out.2.2.2 rfl (by decide) (.slice Ak (1+1) ck) (1+1) (bv ((63+4) :: digs x 4 1)) rfl (HK.out.1.alloc _) (wr.heap.size+1) (some ⟨wr.heap.size,0,none⟩) 1 1 [.int .u8 ((x:Int) / 65536 % 256)] rfl (rd_new _ _ _ _ _ _ _ rfl (by omega) rfl rfl) (by simp [ones,Value.oneCell']) (by unfold maxLen;omega) (by omega) hbk2.out ?_)
    intro v2 w2 hown1 hgrow1
    have HN:Hid (w2.ownsRow w.heap.size 5 1 v2 (1+1+1) (bv ((63+4) :: digs x 4 (1+1)))∧Below w.heap.size w w2):=by
     refine ⟨?_,(HK.out.2.alloc hbk.out _).grown hgrow1 hbk2.out (fun g hg=>(HK.out.1.lt g hg).1)⟩
     rw [digs_snoc,← List.cons_append,bv_app,show bv [x / 2 ^ (8 * (4 - 1 - 1)) % 256]=[.int .u8 ((x:Int) / 65536 % 256)] by rw [hF.out];rfl]
     exact hown1
    clear hown1 hgrow1
    go_wp2
    go_roundw
    case rel=>exact ⟨1+1,by omega,by go_num,HN⟩
    case measure=>simp [intOf]
   ·have hF:Hid ((x:Int) / 256 % 256=((x / 2 ^ (8 * (4 - 1 - 2)) % 256:Nat):Int)):=by show _=_;omega
    obtain ⟨Ak,ck,ek,_,_,_,_⟩:=own_form HK.out.1
    subst ek
    have hbk:Hid (w.heap.size≤wr.heap.size):=HK.out.2.size
    have hbk2:Hid (w.heap.size≤(wr.alloc (.cells #[.int .u8 ((x:Int) / 256 % 256)] 5)).heap.size):=by show _≤_;simp only [World.size_alloc];exact Nat.le_trans hbk.out (by omega)
    go_wp2_with (at_builtin;refine wpList_app _ rfl (.tmp 24) (.tmp 30) 24 rfl w.heap.size 5 i0 (.int .u8 0) 1 1 Tryd.underlying24 HI.out.1 HI.out.2.1 HI.out.2.2.1 HI.out.2.2.2 rfl (by decide) (.slice Ak (2+1) ck) (2+1) (bv ((63+4) :: digs x 4 2)) rfl (HK.out.1.alloc _) (wr.heap.size+1) (some ⟨wr.heap.size,0,none⟩) 1 1 [.int .u8 ((x:Int) / 256 % 256)] rfl (rd_new _ _ _ _ _ _ _ rfl (by omega) rfl rfl) (by simp [ones,Value.oneCell']) (by unfold maxLen;omega) (by omega) hbk2.out ?_)
    intro v2 w2 hown1 hgrow1
    have HN:Hid (w2.ownsRow w.heap.size 5 1 v2 (2+1+1) (bv ((63+4) :: digs x 4 (2+1)))∧Below w.heap.size w w2):=by
     refine ⟨?_,(HK.out.2.alloc hbk.out _).grown hgrow1 hbk2.out (fun g hg=>(HK.out.1.lt g hg).1)⟩
     rw [digs_snoc,← List.cons_append,bv_app,show bv [x / 2 ^ (8 * (4 - 1 - 2)) % 256]=[.int .u8 ((x:Int) / 256 % 256)] by rw [hF.out];rfl]
     exact hown1
    clear hown1 hgrow1
    go_wp2
    go_roundw
    case rel=>exact ⟨2+1,by omega,by go_num,HN⟩
    case measure=>simp [intOf]
   ·have hF:Hid ((x:Int) % 256=((x / 2 ^ (8 * (4 - 1 - 3)) % 256:Nat):Int)):=by show _=_;omega
    obtain ⟨Ak,ck,ek,_,_,_,_⟩:=own_form HK.out.1
    subst ek
    have hbk:Hid (w.heap.size≤wr.heap.size):=HK.out.2.size
    have hbk2:Hid (w.heap.size≤(wr.alloc (.cells #[.int .u8 ((x:Int) % 256)] 5)).heap.size):=by show _≤_;simp only [World.size_alloc];exact Nat.le_trans hbk.out (by omega)
    go_wp2_with (at_builtin;refine wpList_app _ rfl (.tmp 24) (.tmp 30) 24 rfl w.heap.size 5 i0 (.int .u8 0) 1 1 Tryd.underlying24 HI.out.1 HI.out.2.1 HI.out.2.2.1 HI.out.2.2.2 rfl (by decide) (.slice Ak (3+1) ck) (3+1) (bv ((63+4) :: digs x 4 3)) rfl (HK.out.1.alloc _) (wr.heap.size+1) (some ⟨wr.heap.size,0,none⟩) 1 1 [.int .u8 ((x:Int) % 256)] rfl (rd_new _ _ _ _ _ _ _ rfl (by omega) rfl rfl) (by simp [ones,Value.oneCell']) (by unfold maxLen;omega) (by omega) hbk2.out ?_)
    intro v2 w2 hown1 hgrow1
    have HN:Hid (w2.ownsRow w.heap.size 5 1 v2 (3+1+1) (bv ((63+4) :: digs x 4 (3+1)))∧Below w.heap.size w w2):=by
     refine ⟨?_,(HK.out.2.alloc hbk.out _).grown hgrow1 hbk2.out (fun g hg=>(HK.out.1.lt g hg).1)⟩
     rw [digs_snoc,← List.cons_append,bv_app,show bv [x / 2 ^ (8 * (4 - 1 - 3)) % 256]=[.int .u8 ((x:Int) % 256)] by rw [hF.out];rfl]
     exact hown1
    clear hown1 hgrow1
    go_wp2
    go_roundw
    case rel=>exact ⟨3+1,by omega,by go_num,HN⟩
    case measure=>simp [intOf]
   ·go_wp2
    go_ret
    exact ⟨_,rfl,HK.out⟩
end Go.Proofs.YtccljifichaieaaDoor
