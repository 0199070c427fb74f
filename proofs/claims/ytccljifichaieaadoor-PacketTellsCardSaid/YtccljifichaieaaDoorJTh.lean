/- Joined texts. Conditions: as each theorem lists them. -/
import Derived.Test.YtccljifichaieaaDoorJ10
import Derived.Test.YtccljifichaieaaDoorJPnR
import Derived.OwnWalk
import Derived.Outline
set_option linter.unusedSimpArgs false
set_option linter.unusedVariables false
set_option maxRecDepth 100000
set_option maxHeartbeats 8000000
namespace Go.Proofs.YtccljifichaieaaDoor
open Go Go.RowKit
theorem rroom_any (n a:Int) (w:World) (h1:-9223372036854775808≤n - a) (h2:n - a≤9223372036854775807) :
  Calls Tryd.prog 10 #[.int .i64 n,.int .i64 a] w fun e w'=>e=.returned (.int .i64 (231 - (kN n a:Int)))∧w=w':=by
 have HB:=Lib.hid (fun W=>Pn.rbytes_at n a (kN n a) (kN_eq n a) W h1 h2)
 obtain ⟨k1,k4⟩:=kN_in n a
 obtain ⟨k,hk⟩:∃ k,kN n a=k:=⟨_,rfl⟩
 rw [hk] at HB k1 k4 ⊢
 clear hk h1 h2
 go_enter Tryd.func10,Tryd.ntmps10
 go_wp2_with fail
 refine (HB.out _).mono ?_;rintro e w' ⟨rfl,rfl⟩
 go_wp2_with fail
 go_ret
 exact ⟨rfl,rfl⟩
theorem headOf_any (num:Int) (k:Nat) (w:World) (h1:1≤k) (h4:k≤4) (n0:0≤num) (n1:num≤4611686018427387903) :
  Calls Tryd.prog 26 #[.int .i64 num,.int .i64 (k:Int)] w fun e w'=>∃ v',e=.returned v'∧w'.ownsRow w.heap.size 5 1 v' (k+1) (bv (headN num k))∧Below w.heap.size w w':=by
 have hx32:=cutN_32 num k h1 h4
 have hmod:Hid ((cutN num k:Int)=num % ((2 ^ (8 * k):Nat):Int)):=by
  show _=_
  rw [← cutN_eq,← tn_pow k h1 h4];rfl
 unfold headN
 obtain ⟨x,hx⟩:∃ x,cutN num k=x:=⟨_,rfl⟩
 rw [hx] at hx32 hmod ⊢
 have hx32:=Lib.hid hx32
 clear hx
 obtain ⟨i0,hi,hz0,hz1,hz2⟩:=info_parts infoB
 have HI:=Lib.hid (And.intro hi (And.intro hz0 (And.intro hz1 hz2)))
 clear hi hz0 hz1 hz2
 have hc:k=1∨k=2∨k=3∨k=4:=by omega
 clear h1 h4
 rcases hc with rfl | rfl | rfl | rfl
 ·have hmod:Hid ((x:Int)=num % 256):=hmod.out
  go_enter Tryd.func26,Tryd.ntmps26
  have HN0:Hid ((w.alloc (.cells #[.int .u8 64] 5)).ownsRow w.heap.size 5 1 (.slice (some ⟨w.heap.size,0,none⟩) 1 1) 1 (bv ((63+1) :: digs x 1 0))∧Below w.heap.size w (w.alloc (.cells #[.int .u8 64] 5))) :=
   ⟨own_new w #[.int .u8 64] 5 1 1 _ _ rfl rfl (by unfold maxLen;omega) (Nat.le_refl _),(Below.refl _ _).alloc (Nat.le_refl _) _⟩
  go_wp2
  go_loopw [5,6] (fun v i wr=>∃ q:Nat,q≤1∧i=.int .i64 (0 - (q:Int))∧Hid (wr.ownsRow w.heap.size 5 1 v (q+1) (bv ((63+1) :: digs x 1 q))∧Below w.heap.size w wr)) (fun _ i _=>(intOf i+1).toNat)
  case atStart=>exact ⟨0,by omega,rfl,HN0⟩
  case round =>
   obtain ⟨q,hq,rfl,HK⟩:=hrel
   have hcase:q=0∨q=1:=by omega
   clear hq
   rcases hcase with rfl | rfl
   ·have hF:Hid (num % 256=((x / 2 ^ (8 * (1 - 1 - 0)) % 256:Nat):Int)):=by
     have:=hmod.out
     show _=_;omega
    obtain ⟨Ak,ck,ek,_,_,_,_⟩:=own_form HK.out.1
    subst ek
    have hbk:Hid (w.heap.size≤wr.heap.size):=HK.out.2.size
    have hbk2:Hid (w.heap.size≤(wr.alloc (.cells #[.int .u8 (num % 256)] 5)).heap.size):=by show _≤_;simp only [World.size_alloc];exact Nat.le_trans hbk.out (by omega)
    go_wp2_with (at_builtin;refine wpList_app _ rfl (.tmp 17) (.tmp 24) 24 rfl w.heap.size 5 i0 (.int .u8 0) 1 1 Tryd.underlying24 HI.out.1 HI.out.2.1 HI.out.2.2.1 HI.out.2.2.2 rfl (by decide) (.slice Ak (0+1) ck) (0+1) (bv ((63+1) :: digs x 1 0)) rfl (HK.out.1.alloc _) (wr.heap.size+1) (some ⟨wr.heap.size,0,none⟩) 1 1 [.int .u8 (num % 256)] rfl (rd_new _ _ _ _ _ _ _ rfl (by omega) rfl rfl) (by simp [ones,Value.oneCell']) (by unfold maxLen;omega) (by omega) hbk2.out ?_)
    intro v2 w2 hown1 hgrow1
    have HN:Hid (w2.ownsRow w.heap.size 5 1 v2 (0+1+1) (bv ((63+1) :: digs x 1 (0+1)))∧Below w.heap.size w w2):=by
     refine ⟨?_,(HK.out.2.alloc hbk.out _).grown hgrow1 hbk2.out (fun g hg=>(HK.out.1.lt g hg).1)⟩
     rw [digs_snoc,← List.cons_append,bv_app,show bv [x / 2 ^ (8 * (1 - 1 - 0)) % 256]=[.int .u8 (num % 256)] by rw [hF.out];rfl]
     exact hown1
    clear hown1 hgrow1
    go_wp2
    go_roundw
    case rel=>exact ⟨v2,.int .i64 (-1),_,_,_,_,_,_,_,_,_,_,_,_,_,⟨0+1,by omega,by go_num,HN⟩,rfl⟩
    case measure=>simp [intOf]
   ·go_wp2
    go_ret
    exact ⟨_,rfl,HK.out⟩
 ·have hmod:Hid ((x:Int)=num % 65536):=hmod.out
  go_enter Tryd.func26,Tryd.ntmps26
  have HN0:Hid ((w.alloc (.cells #[.int .u8 65] 5)).ownsRow w.heap.size 5 1 (.slice (some ⟨w.heap.size,0,none⟩) 1 1) 1 (bv ((63+2) :: digs x 2 0))∧Below w.heap.size w (w.alloc (.cells #[.int .u8 65] 5))) :=
   ⟨own_new w #[.int .u8 65] 5 1 1 _ _ rfl rfl (by unfold maxLen;omega) (Nat.le_refl _),(Below.refl _ _).alloc (Nat.le_refl _) _⟩
  go_wp2
  go_loopw [5,6] (fun v i wr=>∃ q:Nat,q≤2∧i=.int .i64 (1 - (q:Int))∧Hid (wr.ownsRow w.heap.size 5 1 v (q+1) (bv ((63+2) :: digs x 2 q))∧Below w.heap.size w wr)) (fun _ i _=>(intOf i+1).toNat)
  case atStart=>exact ⟨0,by omega,rfl,HN0⟩
  case round =>
   obtain ⟨q,hq,rfl,HK⟩:=hrel
   have hcase:q=0∨q=1∨q=2:=by omega
   clear hq
   rcases hcase with rfl | rfl | rfl
   ·have hF:Hid (num / 256 % 256=((x / 2 ^ (8 * (2 - 1 - 0)) % 256:Nat):Int)):=by
     have:=hmod.out
     show _=_;omega
    obtain ⟨Ak,ck,ek,_,_,_,_⟩:=own_form HK.out.1
    subst ek
    have hbk:Hid (w.heap.size≤wr.heap.size):=HK.out.2.size
    have hbk2:Hid (w.heap.size≤(wr.alloc (.cells #[.int .u8 (num / 256 % 256)] 5)).heap.size):=by show _≤_;simp only [World.size_alloc];exact Nat.le_trans hbk.out (by omega)
    go_wp2_with (at_builtin;refine wpList_app _ rfl (.tmp 17) (.tmp 24) 24 rfl w.heap.size 5 i0 (.int .u8 0) 1 1 Tryd.underlying24 HI.out.1 HI.out.2.1 HI.out.2.2.1 HI.out.2.2.2 rfl (by decide) (.slice Ak (0+1) ck) (0+1) (bv ((63+2) :: digs x 2 0)) rfl (HK.out.1.alloc _) (wr.heap.size+1) (some ⟨wr.heap.size,0,none⟩) 1 1 [.int .u8 (num / 256 % 256)] rfl (rd_new _ _ _ _ _ _ _ rfl (by omega) rfl rfl) (by simp [ones,Value.oneCell']) (by unfold maxLen;omega) (by omega) hbk2.out ?_)
    intro v2 w2 hown1 hgrow1
    have HN:Hid (w2.ownsRow w.heap.size 5 1 v2 (0+1+1) (bv ((63+2) :: digs x 2 (0+1)))∧Below w.heap.size w w2):=by
     refine ⟨?_,(HK.out.2.alloc hbk.out _).grown hgrow1 hbk2.out (fun g hg=>(HK.out.1.lt g hg).1)⟩
     rw [digs_snoc,← List.cons_append,bv_app,show bv [x / 2 ^ (8 * (2 - 1 - 0)) % 256]=[.int .u8 (num / 256 % 256)] by rw [hF.out];rfl]
     exact hown1
    clear hown1 hgrow1
    go_wp2
    go_roundw
    case rel=>exact ⟨v2,.int .i64 (0),_,_,_,_,_,_,_,_,_,_,_,_,_,⟨0+1,by omega,by go_num,HN⟩,rfl⟩
    case measure=>simp [intOf]
   ·have hF:Hid (num % 256=((x / 2 ^ (8 * (2 - 1 - 1)) % 256:Nat):Int)):=by
     have:=hmod.out
     show _=_;omega
    obtain ⟨Ak,ck,ek,_,_,_,_⟩:=own_form HK.out.1
    subst ek
    have hbk:Hid (w.heap.size≤wr.heap.size):=HK.out.2.size
    have hbk2:Hid (w.heap.size≤(wr.alloc (.cells #[.int .u8 (num % 256)] 5)).heap.size):=by show _≤_;simp only [World.size_alloc];exact Nat.le_trans hbk.out (by omega)
    go_wp2_with (at_builtin;refine wpList_app _ rfl (.tmp 17) (.tmp 24) 24 rfl w.heap.size 5 i0 (.int .u8 0) 1 1 Tryd.underlying24 HI.out.1 HI.out.2.1 HI.out.2.2.1 HI.out.2.2.2 rfl (by decide) (.slice Ak (1+1) ck) (1+1) (bv ((63+2) :: digs x 2 1)) rfl (HK.out.1.alloc _) (wr.heap.size+1) (some ⟨wr.heap.size,0,none⟩) 1 1 [.int .u8 (num % 256)] rfl (rd_new _ _ _ _ _ _ _ rfl (by omega) rfl rfl) (by simp [ones,Value.oneCell']) (by unfold maxLen;omega) (by omega) hbk2.out ?_)
    intro v2 w2 hown1 hgrow1
    have HN:Hid (w2.ownsRow w.heap.size 5 1 v2 (1+1+1) (bv ((63+2) :: digs x 2 (1+1)))∧Below w.heap.size w w2):=by
     refine ⟨?_,(HK.out.2.alloc hbk.out _).grown hgrow1 hbk2.out (fun g hg=>(HK.out.1.lt g hg).1)⟩
     rw [digs_snoc,← List.cons_append,bv_app,show bv [x / 2 ^ (8 * (2 - 1 - 1)) % 256]=[.int .u8 (num % 256)] by rw [hF.out];rfl]
     exact hown1
    clear hown1 hgrow1
    go_wp2
    go_roundw
    case rel=>exact ⟨v2,.int .i64 (-1),_,_,_,_,_,_,_,_,_,_,_,_,_,⟨1+1,by omega,by go_num,HN⟩,rfl⟩
    case measure=>simp [intOf]
   ·go_wp2
    go_ret
    exact ⟨_,rfl,HK.out⟩
 ·have hmod:Hid ((x:Int)=num % 16777216):=hmod.out
  go_enter Tryd.func26,Tryd.ntmps26
  have HN0:Hid ((w.alloc (.cells #[.int .u8 66] 5)).ownsRow w.heap.size 5 1 (.slice (some ⟨w.heap.size,0,none⟩) 1 1) 1 (bv ((63+3) :: digs x 3 0))∧Below w.heap.size w (w.alloc (.cells #[.int .u8 66] 5))) :=
   ⟨own_new w #[.int .u8 66] 5 1 1 _ _ rfl rfl (by unfold maxLen;omega) (Nat.le_refl _),(Below.refl _ _).alloc (Nat.le_refl _) _⟩
  go_wp2
  go_loopw [5,6] (fun v i wr=>∃ q:Nat,q≤3∧i=.int .i64 (2 - (q:Int))∧Hid (wr.ownsRow w.heap.size 5 1 v (q+1) (bv ((63+3) :: digs x 3 q))∧Below w.heap.size w wr)) (fun _ i _=>(intOf i+1).toNat)
  case atStart=>exact ⟨0,by omega,rfl,HN0⟩
  case round =>
   obtain ⟨q,hq,rfl,HK⟩:=hrel
   have hcase:q=0∨q=1∨q=2∨q=3:=by omega
   clear hq
   rcases hcase with rfl | rfl | rfl | rfl
   ·have hF:Hid (num / 65536 % 256=((x / 2 ^ (8 * (3 - 1 - 0)) % 256:Nat):Int)):=by
     have:=hmod.out
     show _=_;omega
    obtain ⟨Ak,ck,ek,_,_,_,_⟩:=own_form HK.out.1
    subst ek
    have hbk:Hid (w.heap.size≤wr.heap.size):=HK.out.2.size
    have hbk2:Hid (w.heap.size≤(wr.alloc (.cells #[.int .u8 (num / 65536 % 256)] 5)).heap.size):=by show _≤_;simp only [World.size_alloc];exact Nat.le_trans hbk.out (by omega)
    go_wp2_with (at_builtin;refine wpList_app _ rfl (.tmp 17) (.tmp 24) 24 rfl w.heap.size 5 i0 (.int .u8 0) 1 1 Tryd.underlying24 HI.out.1 HI.out.2.1 HI.out.2.2.1 HI.out.2.2.2 rfl (by decide) (.slice Ak (0+1) ck) (0+1) (bv ((63+3) :: digs x 3 0)) rfl (HK.out.1.alloc _) (wr.heap.size+1) (some ⟨wr.heap.size,0,none⟩) 1 1 [.int .u8 (num / 65536 % 256)] rfl (rd_new _ _ _ _ _ _ _ rfl (by omega) rfl rfl) (by simp [ones,Value.oneCell']) (by unfold maxLen;omega) (by omega) hbk2.out ?_)
    intro v2 w2 hown1 hgrow1
    have HN:Hid (w2.ownsRow w.heap.size 5 1 v2 (0+1+1) (bv ((63+3) :: digs x 3 (0+1)))∧Below w.heap.size w w2):=by
     refine ⟨?_,(HK.out.2.alloc hbk.out _).grown hgrow1 hbk2.out (fun g hg=>(HK.out.1.lt g hg).1)⟩
     rw [digs_snoc,← List.cons_append,bv_app,show bv [x / 2 ^ (8 * (3 - 1 - 0)) % 256]=[.int .u8 (num / 65536 % 256)] by rw [hF.out];rfl]
     exact hown1
    clear hown1 hgrow1
    go_wp2
    go_roundw
    case rel=>exact ⟨v2,.int .i64 (1),_,_,_,_,_,_,_,_,_,_,_,_,_,⟨0+1,by omega,by go_num,HN⟩,rfl⟩
    case measure=>simp [intOf]
   ·have hF:Hid (num / 256 % 256=((x / 2 ^ (8 * (3 - 1 - 1)) % 256:Nat):Int)):=by
     have:=hmod.out
     show _=_;omega
    obtain ⟨Ak,ck,ek,_,_,_,_⟩:=own_form HK.out.1
    subst ek
    have hbk:Hid (w.heap.size≤wr.heap.size):=HK.out.2.size
    have hbk2:Hid (w.heap.size≤(wr.alloc (.cells #[.int .u8 (num / 256 % 256)] 5)).heap.size):=by show _≤_;simp only [World.size_alloc];exact Nat.le_trans hbk.out (by omega)
    go_wp2_with (at_builtin;refine wpList_app _ rfl (.tmp 17) (.tmp 24) 24 rfl w.heap.size 5 i0 (.int .u8 0) 1 1 Tryd.underlying24 HI.out.1 HI.out.2.1 HI.out.2.2.1 HI.out.2.2.2 rfl (by decide) (.slice Ak (1+1) ck) (1+1) (bv ((63+3) :: digs x 3 1)) rfl (HK.out.1.alloc _) (wr.heap.size+1) (some ⟨wr.heap.size,0,none⟩) 1 1 [.int .u8 (num / 256 % 256)] rfl (rd_new _ _ _ _ _ _ _ rfl (by omega) rfl rfl) (by simp [ones,Value.oneCell']) (by unfold maxLen;omega) (by omega) hbk2.out ?_)
    intro v2 w2 hown1 hgrow1
    have HN:Hid (w2.ownsRow w.heap.size 5 1 v2 (1+1+1) (bv ((63+3) :: digs x 3 (1+1)))∧Below w.heap.size w w2):=by
     refine ⟨?_,(HK.out.2.alloc hbk.out _).grown hgrow1 hbk2.out (fun g hg=>(HK.out.1.lt g hg).1)⟩
     rw [digs_snoc,← List.cons_append,bv_app,show bv [x / 2 ^ (8 * (3 - 1 - 1)) % 256]=[.int .u8 (num / 256 % 256)] by rw [hF.out];rfl]
     exact hown1
    clear hown1 hgrow1
    go_wp2
    go_roundw
    case rel=>exact ⟨v2,.int .i64 (0),_,_,_,_,_,_,_,_,_,_,_,_,_,⟨1+1,by omega,by go_num,HN⟩,rfl⟩
    case measure=>simp [intOf]
   ·have hF:Hid (num % 256=((x / 2 ^ (8 * (3 - 1 - 2)) % 256:Nat):Int)):=by
     have:=hmod.out
     show _=_;omega
    obtain ⟨Ak,ck,ek,_,_,_,_⟩:=own_form HK.out.1
    subst ek
    have hbk:Hid (w.heap.size≤wr.heap.size):=HK.out.2.size
    have hbk2:Hid (w.heap.size≤(wr.alloc (.cells #[.int .u8 (num % 256)] 5)).heap.size):=by show _≤_;simp only [World.size_alloc];exact Nat.le_trans hbk.out (by omega)
    go_wp2_with (at_builtin;refine wpList_app _ rfl (.tmp 17) (.tmp 24) 24 rfl w.heap.size 5 i0 (.int .u8 0) 1 1 Tryd.underlying24 HI.out.1 HI.out.2.1 HI.out.2.2.1 HI.out.2.2.2 rfl (by decide) (.slice Ak (2+1) ck) (2+1) (bv ((63+3) :: digs x 3 2)) rfl (HK.out.1.alloc _) (wr.heap.size+1) (some ⟨wr.heap.size,0,none⟩) 1 1 [.int .u8 (num % 256)] rfl (rd_new _ _ _ _ _ _ _ rfl (by omega) rfl rfl) (by simp [ones,Value.oneCell']) (by unfold maxLen;omega) (by omega) hbk2.out ?_)
    intro v2 w2 hown1 hgrow1
    have HN:Hid (w2.ownsRow w.heap.size 5 1 v2 (2+1+1) (bv ((63+3) :: digs x 3 (2+1)))∧Below w.heap.size w w2):=by
     refine ⟨?_,(HK.out.2.alloc hbk.out _).grown hgrow1 hbk2.out (fun g hg=>(HK.out.1.lt g hg).1)⟩
     rw [digs_snoc,← List.cons_append,bv_app,show bv [x / 2 ^ (8 * (3 - 1 - 2)) % 256]=[.int .u8 (num % 256)] by rw [hF.out];rfl]
     exact hown1
    clear hown1 hgrow1
    go_wp2
    go_roundw
    case rel=>exact ⟨v2,.int .i64 (-1),_,_,_,_,_,_,_,_,_,_,_,_,_,⟨2+1,by omega,by go_num,HN⟩,rfl⟩
    case measure=>simp [intOf]
   ·go_wp2
    go_ret
    exact ⟨_,rfl,HK.out⟩
 ·have hmod:Hid ((x:Int)=num % 4294967296):=hmod.out
  go_enter Tryd.func26,Tryd.ntmps26
  have HN0:Hid ((w.alloc (.cells #[.int .u8 67] 5)).ownsRow w.heap.size 5 1 (.slice (some ⟨w.heap.size,0,none⟩) 1 1) 1 (bv ((63+4) :: digs x 4 0))∧Below w.heap.size w (w.alloc (.cells #[.int .u8 67] 5))) :=
   ⟨own_new w #[.int .u8 67] 5 1 1 _ _ rfl rfl (by unfold maxLen;omega) (Nat.le_refl _),(Below.refl _ _).alloc (Nat.le_refl _) _⟩
  go_wp2
  go_loopw [5,6] (fun v i wr=>∃ q:Nat,q≤4∧i=.int .i64 (3 - (q:Int))∧Hid (wr.ownsRow w.heap.size 5 1 v (q+1) (bv ((63+4) :: digs x 4 q))∧Below w.heap.size w wr)) (fun _ i _=>(intOf i+1).toNat)
  case atStart=>exact ⟨0,by omega,rfl,HN0⟩
  case round =>
   obtain ⟨q,hq,rfl,HK⟩:=hrel
   have hcase:q=0∨q=1∨q=2∨q=3∨q=4:=by omega
   clear hq
   rcases hcase with rfl | rfl | rfl | rfl | rfl
   ·have hF:Hid (num / 16777216 % 256=((x / 2 ^ (8 * (4 - 1 - 0)) % 256:Nat):Int)):=by
     have:=hmod.out
     show _=_;omega
    obtain ⟨Ak,ck,ek,_,_,_,_⟩:=own_form HK.out.1
    subst ek
    have hbk:Hid (w.heap.size≤wr.heap.size):=HK.out.2.size
    have hbk2:Hid (w.heap.size≤(wr.alloc (.cells #[.int .u8 (num / 16777216 % 256)] 5)).heap.size):=by show _≤_;simp only [World.size_alloc];exact Nat.le_trans hbk.out (by omega)
    go_wp2_with (at_builtin;refine wpList_app _ rfl (.tmp 17) (.tmp 24) 24 rfl w.heap.size 5 i0 (.int .u8 0) 1 1 Tryd.underlying24 HI.out.1 HI.out.2.1 HI.out.2.2.1 HI.out.2.2.2 rfl (by decide) (.slice Ak (0+1) ck) (0+1) (bv ((63+4) :: digs x 4 0)) rfl (HK.out.1.alloc _) (wr.heap.size+1) (some ⟨wr.heap.size,0,none⟩) 1 1 [.int .u8 (num / 16777216 % 256)] rfl (rd_new _ _ _ _ _ _ _ rfl (by omega) rfl rfl) (by simp [ones,Value.oneCell']) (by unfold maxLen;omega) (by omega) hbk2.out ?_)
    intro v2 w2 hown1 hgrow1
    have HN:Hid (w2.ownsRow w.heap.size 5 1 v2 (0+1+1) (bv ((63+4) :: digs x 4 (0+1)))∧Below w.heap.size w w2):=by
     refine ⟨?_,(HK.out.2.alloc hbk.out _).grown hgrow1 hbk2.out (fun g hg=>(HK.out.1.lt g hg).1)⟩
     rw [digs_snoc,← List.cons_append,bv_app,show bv [x / 2 ^ (8 * (4 - 1 - 0)) % 256]=[.int .u8 (num / 16777216 % 256)] by rw [hF.out];rfl]
     exact hown1
    clear hown1 hgrow1
    go_wp2
    go_roundw
    case rel=>exact ⟨v2,.int .i64 (2),_,_,_,_,_,_,_,_,_,_,_,_,_,⟨0+1,by omega,by go_num,HN⟩,rfl⟩
    case measure=>simp [intOf]
   ·have hF:Hid (num / 65536 % 256=((x / 2 ^ (8 * (4 - 1 - 1)) % 256:Nat):Int)):=by
     have:=hmod.out
     show _=_;omega
    obtain ⟨Ak,ck,ek,_,_,_,_⟩:=own_form HK.out.1
    subst ek
    have hbk:Hid (w.heap.size≤wr.heap.size):=HK.out.2.size
    have hbk2:Hid (w.heap.size≤(wr.alloc (.cells #[.int .u8 (num / 65536 % 256)] 5)).heap.size):=by show _≤_;simp only [World.size_alloc];exact Nat.le_trans hbk.out (by omega)
    go_wp2_with (at_builtin;refine wpList_app _ rfl (.tmp 17) (.tmp 24) 24 rfl w.heap.size 5 i0 (.int .u8 0) 1 1 Tryd.underlying24 HI.out.1 HI.out.2.1 HI.out.2.2.1 HI.out.2.2.2 rfl (by decide) (.slice Ak (1+1) ck) (1+1) (bv ((63+4) :: digs x 4 1)) rfl (HK.out.1.alloc _) (wr.heap.size+1) (some ⟨wr.heap.size,0,none⟩) 1 1 [.int .u8 (num / 65536 % 256)] rfl (rd_new _ _ _ _ _ _ _ rfl (by omega) rfl rfl) (by simp [ones,Value.oneCell']) (by unfold maxLen;omega) (by omega) hbk2.out ?_)
    intro v2 w2 hown1 hgrow1
    have HN:Hid (w2.ownsRow w.heap.size 5 1 v2 (1+1+1) (bv ((63+4) :: digs x 4 (1+1)))∧Below w.heap.size w w2):=by
     refine ⟨?_,(HK.out.2.alloc hbk.out _).grown hgrow1 hbk2.out (fun g hg=>(HK.out.1.lt g hg).1)⟩
     rw [digs_snoc,← List.cons_append,bv_app,show bv [x / 2 ^ (8 * (4 - 1 - 1)) % 256]=[.int .u8 (num / 65536 % 256)] by rw [hF.out];rfl]
     exact hown1
    clear hown1 hgrow1
    go_wp2
    go_roundw
    case rel=>exact ⟨v2,.int .i64 (1),_,_,_,_,_,_,_,_,_,_,_,_,_,⟨1+1,by omega,by go_num,HN⟩,rfl⟩
    case measure=>simp [intOf]
   ·have hF:Hid (num / 256 % 256=((x / 2 ^ (8 * (4 - 1 - 2)) % 256:Nat):Int)):=by
     have:=hmod.out
     show _=_;omega
    obtain ⟨Ak,ck,ek,_,_,_,_⟩:=own_form HK.out.1
    subst ek
    have hbk:Hid (w.heap.size≤wr.heap.size):=HK.out.2.size
    have hbk2:Hid (w.heap.size≤(wr.alloc (.cells #[.int .u8 (num / 256 % 256)] 5)).heap.size):=by show _≤_;simp only [World.size_alloc];exact Nat.le_trans hbk.out (by omega)
    go_wp2_with (at_builtin;refine wpList_app _ rfl (.tmp 17) (.tmp 24) 24 rfl w.heap.size 5 i0 (.int .u8 0) 1 1 Tryd.underlying24 HI.out.1 HI.out.2.1 HI.out.2.2.1 HI.out.2.2.2 rfl (by decide) (.slice Ak (2+1) ck) (2+1) (bv ((63+4) :: digs x 4 2)) rfl (HK.out.1.alloc _) (wr.heap.size+1) (some ⟨wr.heap.size,0,none⟩) 1 1 [.int .u8 (num / 256 % 256)] rfl (rd_new _ _ _ _ _ _ _ rfl (by omega) rfl rfl) (by simp [ones,Value.oneCell']) (by unfold maxLen;omega) (by omega) hbk2.out ?_)
    intro v2 w2 hown1 hgrow1
    have HN:Hid (w2.ownsRow w.heap.size 5 1 v2 (2+1+1) (bv ((63+4) :: digs x 4 (2+1)))∧Below w.heap.size w w2):=by
     refine ⟨?_,(HK.out.2.alloc hbk.out _).grown hgrow1 hbk2.out (fun g hg=>(HK.out.1.lt g hg).1)⟩
     rw [digs_snoc,← List.cons_append,bv_app,show bv [x / 2 ^ (8 * (4 - 1 - 2)) % 256]=[.int .u8 (num / 256 % 256)] by rw [hF.out];rfl]
     exact hown1
    clear hown1 hgrow1
    go_wp2
    go_roundw
    case rel=>exact ⟨v2,.int .i64 (0),_,_,_,_,_,_,_,_,_,_,_,_,_,⟨2+1,by omega,by go_num,HN⟩,rfl⟩
    case measure=>simp [intOf]
   ·have hF:Hid (num % 256=((x / 2 ^ (8 * (4 - 1 - 3)) % 256:Nat):Int)):=by
     have:=hmod.out
     show _=_;omega
    obtain ⟨Ak,ck,ek,_,_,_,_⟩:=own_form HK.out.1
    subst ek
    have hbk:Hid (w.heap.size≤wr.heap.size):=HK.out.2.size
    have hbk2:Hid (w.heap.size≤(wr.alloc (.cells #[.int .u8 (num % 256)] 5)).heap.size):=by show _≤_;simp only [World.size_alloc];exact Nat.le_trans hbk.out (by omega)
    go_wp2_with (at_builtin;refine wpList_app _ rfl (.tmp 17) (.tmp 24) 24 rfl w.heap.size 5 i0 (.int .u8 0) 1 1 Tryd.underlying24 HI.out.1 HI.out.2.1 HI.out.2.2.1 HI.out.2.2.2 rfl (by decide) (.slice Ak (3+1) ck) (3+1) (bv ((63+4) :: digs x 4 3)) rfl (HK.out.1.alloc _) (wr.heap.size+1) (some ⟨wr.heap.size,0,none⟩) 1 1 [.int .u8 (num % 256)] rfl (rd_new _ _ _ _ _ _ _ rfl (by omega) rfl rfl) (by simp [ones,Value.oneCell']) (by unfold maxLen;omega) (by omega) hbk2.out ?_)
    intro v2 w2 hown1 hgrow1
    have HN:Hid (w2.ownsRow w.heap.size 5 1 v2 (3+1+1) (bv ((63+4) :: digs x 4 (3+1)))∧Below w.heap.size w w2):=by
     refine ⟨?_,(HK.out.2.alloc hbk.out _).grown hgrow1 hbk2.out (fun g hg=>(HK.out.1.lt g hg).1)⟩
     rw [digs_snoc,← List.cons_append,bv_app,show bv [x / 2 ^ (8 * (4 - 1 - 3)) % 256]=[.int .u8 (num % 256)] by rw [hF.out];rfl]
     exact hown1
    clear hown1 hgrow1
    go_wp2
    go_roundw
    case rel=>exact ⟨v2,.int .i64 (-1),_,_,_,_,_,_,_,_,_,_,_,_,_,⟨3+1,by omega,by go_num,HN⟩,rfl⟩
    case measure=>simp [intOf]
   ·go_wp2
    go_ret
    exact ⟨_,rfl,HK.out⟩
end Go.Proofs.YtccljifichaieaaDoor
