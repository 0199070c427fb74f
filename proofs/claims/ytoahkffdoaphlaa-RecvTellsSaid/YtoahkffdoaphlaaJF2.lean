/- Joined texts. Conditions: as each theorem lists them. -/
import Derived.Test.YtoahkffdoaphlaaJF1
import Derived.Deep.RegionHeld3
set_option linter.unusedSimpArgs false
set_option linter.unusedVariables false
set_option maxRecDepth 100000
set_option maxHeartbeats 80000000
namespace Go.Proofs.Ytoahkffdoaphlaa
open Go Go.RowKit
theorem ret_bool {a b:Bool} (h:a=b):Ending.returned (.bool a)=.returned (.bool b):=by rw [h]
def rnB (id a off b:Int):Bool:=decide (allMay [id,a,off,b]) && decide (b≤off)
theorem rnums_any (k id off a b note:Int) (fin:Bool) (A:Option Addr) (n c:Nat) (A2:Option Addr) (n2 c2:Nat) (w:World) :
  Calls Try.prog 119 #[.agg #[.int .i64 k,.int .i64 id,.int .i64 off,.int .i64 a,.int .i64 b,.int .i64 note,.bool fin,.slice A n c,.slice A2 n2 c2]] w fun e w'=>e=.returned (.bool (rnB id a off b))∧Below w.heap.size w w':=by
 have H:=Lib.hid (fun (g:Nat) (W:World) (hx:Rd W (g+1) (some ⟨g,0,none⟩) 4 (ints [id,a,off,b]))=>size_any [id,a,off,b] (g+1) (some ⟨g,0,none⟩) 4 W (fun h=>by cases h) hx (by simp))
 by_cases hm:allMay [id,a,off,b]
 ·have H2:Hid (∀ (g:Nat) (W:World) (hx:Rd W (g+1) (some ⟨g,0,none⟩) 4 (ints [id,a,off,b])),Calls Try.prog 102 #[.slice (some ⟨g,0,none⟩) 4 4] W fun e w'=>e=.returned (.int .i64 (sumW [id,a,off,b]))∧W=w'):=fun g W hx=>by
   have:=H.out g W hx
   rw [if_pos hm] at this
   exact this
  obtain ⟨s,hs⟩:∃ s,Hid (sumW [id,a,off,b]=s):=⟨_,rfl⟩
  rw [hs.out] at H2
  have e1:rnB id a off b=decide (b≤off):=by simp [rnB,hm]
  rw [e1]
  clear e1 hm H
  by_cases hb:b≤off
  ·have d1:decide (b≤off)=true:=decide_eq_true hb
   rw [d1]
   go_enter Try.func119,Try.ntmps119
   go_wp2_with (go_at_call 102;refine (H2.out (w.heap.size+1) _ (rd_new _ _ _ _ _ _ _ (by simp) (by simp) rfl rfl)).mono ?_;rintro e w' ⟨rfl,rfl⟩)
   go_ret
   exact ⟨rfl,((Below.refl _ _).alloc (Nat.le_refl _) _).alloc (by simp) _⟩
  ·have d1:decide (b≤off)=false:=decide_eq_false hb
   rw [d1]
   go_enter Try.func119,Try.ntmps119
   go_wp2_with (go_at_call 102;refine (H2.out (w.heap.size+1) _ (rd_new _ _ _ _ _ _ _ (by simp) (by simp) rfl rfl)).mono ?_;rintro e w' ⟨rfl,rfl⟩)
   go_ret
   exact ⟨rfl,((Below.refl _ _).alloc (Nat.le_refl _) _).alloc (by simp) _⟩
 ·have H2:Hid (∀ (g:Nat) (W:World) (hx:Rd W (g+1) (some ⟨g,0,none⟩) 4 (ints [id,a,off,b])),Calls Try.prog 102 #[.slice (some ⟨g,0,none⟩) 4 4] W fun e w'=>e=.returned (.int .i64 (-1))∧W=w'):=fun g W hx=>by
   have:=H.out g W hx
   rw [if_neg hm] at this
   exact this
  have e1:rnB id a off b=false:=by simp [rnB,hm]
  rw [e1]
  clear e1 hm H
  go_enter Try.func119,Try.ntmps119
  go_wp2_with (go_at_call 102;refine (H2.out (w.heap.size+1) _ (rd_new _ _ _ _ _ _ _ (by simp) (by simp) rfl rfl)).mono ?_;rintro e w' ⟨rfl,rfl⟩)
  go_ret
  exact ⟨rfl,((Below.refl _ _).alloc (Nat.le_refl _) _).alloc (by simp) _⟩
def rdB (k off:Int) (n:Nat):Bool:=decide (n≤120) && decide ((n:Int)≤wrap64 (4611686018427387903 - off)) && (decide (0<n) || !decide (k=9))
theorem rdata_any (k id off a b note:Int) (fin:Bool) (A:Option Addr) (n c:Nat) (A2:Option Addr) (n2 c2:Nat) (w:World) (hn:n≤140737488355328) :
  Calls Try.prog 121 #[.agg #[.int .i64 k,.int .i64 id,.int .i64 off,.int .i64 a,.int .i64 b,.int .i64 note,.bool fin,.slice A n c,.slice A2 n2 c2]] w fun e w'=>e=.returned (.bool (rdB k off n))∧Below w.heap.size w w':=by
 obtain ⟨t,ht⟩:∃ t,Hid (wrap64 (4611686018427387903 - off)=t):=⟨_,rfl⟩
 have hd:rdB k off n=(decide (n≤120) && decide ((n:Int)≤t) && (decide (0<n) || !decide (k=9))):=by unfold rdB;rw [ht.out]
 rw [hd]
 clear hd
 by_cases h1:n≤120
 ·have g1:decide ((n:Int)≤120)=true:=decide_eq_true (by omega)
  by_cases h2:(n:Int)≤t
  ·have g2:decide ((n:Int)≤wrap64 (4611686018427387903 - off))=true:=by rw [ht.out];exact decide_eq_true h2
   have g2':(n:Int)≤wrap64 (4611686018427387903 - off):=by rw [ht.out];exact h2
   by_cases h3:0<n
   ·have e:(decide (n≤120) && decide ((n:Int)≤t) && (decide (0<n) || !decide (k=9)))=true:=by simp [h1,h2,h3]
    rw [e]
    clear e
    have g3:decide (0<n)=true:=decide_eq_true h3
    go_enter Try.func121,Try.ntmps121
    go_wp2
    go_ret
    exact ⟨rfl,(Below.refl _ _).alloc (Nat.le_refl _) _⟩
   ·obtain rfl:n=0:=by omega
    by_cases h4:k=9
    ·subst h4
     have e:(decide (0≤120) && decide (((0:Nat):Int)≤t) && (decide (0<0) || !decide ((9:Int)=9)))=false:=by simp
     rw [e]
     clear e
     go_enter Try.func121,Try.ntmps121
     go_wp2
     go_ret
     exact ⟨rfl,(Below.refl _ _).alloc (Nat.le_refl _) _⟩
    ·have g4:(k != 9)=true:=by simpa using h4
     have h2':0≤t:=by omega
     have e:(decide (0≤120) && decide (((0:Nat):Int)≤t) && (decide (0<0) || !decide (k=9)))=true:=by simp [h4,h2']
     rw [e]
     clear e h4
     go_enter Try.func121,Try.ntmps121
     go_wp2
     go_ret
     exact ⟨rfl,(Below.refl _ _).alloc (Nat.le_refl _) _⟩
  ·have g2:decide ((n:Int)≤wrap64 (4611686018427387903 - off))=false:=by rw [ht.out];exact decide_eq_false h2
   have g2':¬ (n:Int)≤wrap64 (4611686018427387903 - off):=by rw [ht.out];exact h2
   have e:(decide (n≤120) && decide ((n:Int)≤t) && (decide (0<n) || !decide (k=9)))=false:=by simp [h2]
   rw [e]
   clear e
   go_enter Try.func121,Try.ntmps121
   go_wp2
   go_ret
   exact ⟨rfl,(Below.refl _ _).alloc (Nat.le_refl _) _⟩
 ·have g1:decide ((n:Int)≤120)=false:=decide_eq_false (by omega)
  have e:(decide (n≤120) && decide ((n:Int)≤t) && (decide (0<n) || !decide (k=9)))=false:=by simp [h1]
  rw [e]
  clear e
  go_enter Try.func121,Try.ntmps121
  go_wp2
  go_ret
  exact ⟨rfl,(Below.refl _ _).alloc (Nat.le_refl _) _⟩
/-- Whether run k of a flat list of runs is right. -/
def spK (es:List Int) (k:Nat):Bool:=decide (0≤es.getD (2 * k) 0) && decide (es.getD (2 * k+1) 0≤4611686018427387903) && decide (es.getD (2 * k) 0≤es.getD (2 * k+1) 0) && (decide (k=0) || decide (2≤wrap64 (es.getD (2 * (k - 1)) 0 - es.getD (2 * k+1) 0)))
def rsB (es:List Int) (m:Nat):Bool:=decide (∀ k,k<m→spK es k=true) && (decide (1≤m) && decide (m≤8))
theorem rsB_no {es:List Int} {m k:Nat} (hk:k<m) (h:spK es k=false):rsB es m=false:=by
 unfold rsB
 rw [decide_eq_false (fun H=>by rw [H k hk] at h;cases h)]
 rfl
theorem rsB_all {es:List Int} {m:Nat} (h:∀ k,k<m→spK es k=true):rsB es m=(decide (1≤m) && decide (m≤8)):=by
 unfold rsB
 rw [decide_eq_true h]
 rfl
theorem all_snoc {es:List Int} {k:Nat} (h:∀ j,j<k→spK es j=true) (hk:spK es k=true):∀ j,j<k+1→spK es j=true:=fun j hj=>by
 rcases Nat.lt_or_ge j k with h1 | h1
 ·exact h j h1
 ·obtain rfl:j=k:=by omega
  exact hk
theorem rspans_any (es:List Int) (m:Nat) (B:Nat) (A:Option Addr) (c:Nat) (w:World) (hl:es.length=m * 2) (hx:Rd w B A (m * 2) (ints es)) (hB:B≤w.heap.size) (hm:m≤17592186044416) (hc:m≤c) :
  Calls Try.prog 122 #[.slice A m c] w fun e w'=>e=.returned (.bool (rsB es m))∧Below w.heap.size w w':=by
 have HL:=Lib.hid hl
 have HX:=Lib.hid hx
 have hmi:(m:Int)≤17592186044416:=by omega
 have hci:(m:Int)≤(c:Int):=by omega
 clear hl hx hc
 go_enter Try.func122,Try.ntmps122
 go_wp2_with fail
 go_loopw [7] (fun i wr=>∃ k:Nat,k≤m∧i=.int .i64 k∧Hid (∀ j,j<k→spK es j=true)∧Hid (Below w.heap.size w wr)) (fun i _=>m - (intOf i).toNat)
 case atStart=>exact ⟨0,Nat.zero_le _,rfl,fun j h=>by omega,Below.refl _ _⟩
 case round =>
  obtain ⟨k,hk,rfl,HK,HBW⟩:=hrel
  by_cases hlt:k<m
  ·have hlti:(k:Int)<(m:Int):=by omega
   obtain ⟨b,off,hA,hbn,hcs⟩:=HX.out.2 (by omega)
   subst hA
   have hl1:2 * k+1<es.length:=by have:=HL.out;omega
   obtain ⟨x,hx⟩:∃ x,Hid (es.getD (2 * k) 0=x):=⟨_,rfl⟩
   obtain ⟨y,hy⟩:∃ y,Hid (es.getD (2 * k+1) 0=y):=⟨_,rfl⟩
   obtain ⟨z,hz⟩:∃ z,Hid (es.getD (2 * (k - 1)) 0=z):=⟨_,rfl⟩
   have hcx:wr.cell? ⟨b,off+k * 2,none⟩=some (.int .i64 x):=by
    rw [HBW.out.cell (p:=⟨b,off+k * 2,none⟩) (show b<w.heap.size by omega),show off+k * 2=off+2 * k by omega,hcs (2 * k) _ (ints_get es _ (by omega)),hx.out]
   have hcy:wr.cell? ⟨b,off+k * 2+1,none⟩=some (.int .i64 y):=by
    rw [HBW.out.cell (p:=⟨b,off+k * 2+1,none⟩) (show b<w.heap.size by omega),show off+k * 2+1=off+(2 * k+1) by omega,hcs (2 * k+1) _ (ints_get es _ (by omega)),hy.out]
   have HZ:Hid (0<k→wr.cell? ⟨b,off+(k - 1) * 2,none⟩=some (.int .i64 z)):=fun h0=>by
    rw [HBW.out.cell (p:=⟨b,off+(k - 1) * 2,none⟩) (show b<w.heap.size by omega),show off+(k - 1) * 2=off+2 * (k - 1) by omega,hcs (2 * (k - 1)) _ (ints_get es _ (by omega)),hz.out]
   have hbr:Hid (b<wr.heap.size):=by have:=HBW.out.size;exact Nat.lt_of_lt_of_le (Nat.lt_of_lt_of_le hbn hB) this
   clear hcs hbn
   have HS:Hid (spK es k=(decide (0≤x) && decide (y≤4611686018427387903) && decide (x≤y) && (decide (k=0) || decide (2≤wrap64 (z - y))))):=by show _=_;unfold spK;rw [hx.out,hy.out,hz.out]
   have HBA:Hid (Below w.heap.size w (wr.alloc (.cells #[.int .i64 x,.int .i64 y] 88))):=HBW.out.alloc HBW.out.size _
   by_cases h1:0≤x
   ·by_cases h2:y≤4611686018427387903
    ·by_cases h3:x≤y
     ·by_cases h4:k=0
      ·have HS1:Hid (spK es k=true):=by show _=_;rw [HS.out];simp [h1,h2,h3,h4]
       have HK1:=Lib.hid (all_snoc HK.out HS1.out)
       have g4:decide (0<k)=false:=by simp;omega
       have g5:¬ (0:Int)<(k:Int):=by omega
       clear h4
       go_wp2_with fail
       go_quiet (fail)
       go_wp2_with fail
       go_roundw
       case rel=>exact ⟨k+1,by omega,by go_num,HK1,HBA.out.trans ⟨rfl,rfl,rfl,Nat.le_refl _,fun _ _=>rfl⟩⟩
       case measure=>simp [intOf];omega
      ·have h0:0<k:=by omega
       have hcz:=HZ.out h0
       have nb:b<wr.heap.size:=hbr.out
       have g4:decide (0<k)=true:=decide_eq_true h0
       have e1:IntKind.i64.wrap ((k:Int) - 1)=((k - 1:Nat):Int):=by rw [show ((k - 1:Nat):Int)=(k:Int) - 1 by omega];exact IntWalk.i64_in _ (by omega)
       have hk1:k - 1<m:=by omega
       by_cases h5:2≤wrap64 (z - y)
       ·have HS1:Hid (spK es k=true):=by show _=_;rw [HS.out];simp [h1,h2,h3,h5]
        have HK1:=Lib.hid (all_snoc HK.out HS1.out)
        have g5:decide (wrap64 (z - y)<2)=false:=by simp;omega
        go_wp2_with fail
        go_quiet (fail)
        go_wp2_with fail
        go_roundw
        case rel=>exact ⟨k+1,by omega,by go_num,HK1,HBA.out.trans ⟨rfl,rfl,rfl,Nat.le_refl _,fun _ _=>rfl⟩⟩
        case measure=>simp [intOf];omega
       ·have HS1:Hid (rsB es m=false):=rsB_no hlt (by rw [HS.out];simp [h4,h5])
        have g5:decide (wrap64 (z - y)<2)=true:=by simp;omega
        go_wp2_with fail
        go_quiet (fail)
        go_wp2_with fail
        go_ret
        exact ⟨ret_bool HS1.out.symm,HBA.out.trans ⟨rfl,rfl,rfl,Nat.le_refl _,fun _ _=>rfl⟩⟩
     ·have HS1:Hid (rsB es m=false):=rsB_no hlt (by rw [HS.out];simp [h3])
      go_wp2_with fail
      go_ret
      exact ⟨ret_bool HS1.out.symm,HBA.out⟩
    ·have HS1:Hid (rsB es m=false):=rsB_no hlt (by rw [HS.out];simp [h2])
     go_wp2_with fail
     go_ret
     exact ⟨ret_bool HS1.out.symm,HBA.out⟩
   ·have HS1:Hid (rsB es m=false):=rsB_no hlt (by rw [HS.out];simp [h1])
    go_wp2_with fail
    go_ret
    exact ⟨ret_bool HS1.out.symm,HBA.out⟩
  ·have hlti:¬ (k:Int)<(m:Int):=by omega
   obtain rfl:k=m:=by omega
   have HS1:=Lib.hid (rsB_all HK.out)
   by_cases h1:1≤k
   ·by_cases h8:k≤8
    ·have HE:Hid (rsB es k=true):=HS1.out.trans (by simp [h1,h8])
     have g:decide ((k:Int)≤8)=true:=decide_eq_true (by omega)
     go_wp2_with fail
     go_ret
     exact ⟨ret_bool HE.out.symm,HBW.out⟩
    ·have HE:Hid (rsB es k=false):=HS1.out.trans (by simp [h8])
     have g:decide ((k:Int)≤8)=false:=decide_eq_false (by omega)
     go_wp2_with fail
     go_ret
     exact ⟨ret_bool HE.out.symm,HBW.out⟩
   ·have HE:Hid (rsB es k=false):=HS1.out.trans (by simp [h1])
    have g:decide (1≤k)=false:=decide_eq_false h1
    go_wp2_with fail
    go_ret
    exact ⟨ret_bool HE.out.symm,HBW.out⟩
/-- The bits of those that are so. -/
def carI (b:Nat→Bool):Nat→Int
 | 0=>0
 | k+1=>if b k=true then bits .or .i64 (carI b k) (2 ^ k) else carI b k
theorem carI_yes {b:Nat→Bool} {k:Nat} (h:b k=true):carI b (k+1)=bits .or .i64 (carI b k) (2 ^ k):=by simp only [carI,h,if_true]
theorem carI_no {b:Nat→Bool} {k:Nat} (h:b k=false):carI b (k+1)=carI b k:=by simp [carI,h]
def seven {α:Type} (x0 x1 x2 x3 x4 x5 x6:α):Nat→α
 | 0=>x0
 | 1=>x1
 | 2=>x2
 | 3=>x3
 | 4=>x4
 | 5=>x5
 | _=>x6
/-- What of a frame is not zero. -/
def carB (id off a b:Int) (fin:Bool) (n m:Nat):Nat→Bool:=seven (id != 0) (a != 0) (off != 0) (b != 0) fin (decide (0<n)) (decide (0<m))
theorem carried_any (k id off a b note:Int) (fin:Bool) (A:Option Addr) (n c:Nat) (A2:Option Addr) (n2 c2:Nat) (w:World) (hn:n≤140737488355328) (hn2:n2≤140737488355328) :
  Calls Try.prog 120 #[.agg #[.int .i64 k,.int .i64 id,.int .i64 off,.int .i64 a,.int .i64 b,.int .i64 note,.bool fin,.slice A n c,.slice A2 n2 c2]] w fun e w'=>e=.returned (.int .i64 (carI (carB id off a b fin n n2) 7))∧Below w.heap.size w w':=by
 obtain ⟨F,hF⟩:∃ F,Hid (carB id off a b fin n n2=F):=⟨_,rfl⟩
 rw [hF.out]
 obtain ⟨b0,h0⟩:∃ x,(id != 0)=x:=⟨_,rfl⟩
 obtain ⟨b1,h1⟩:∃ x,(a != 0)=x:=⟨_,rfl⟩
 obtain ⟨b2,h2⟩:∃ x,(off != 0)=x:=⟨_,rfl⟩
 obtain ⟨b3,h3⟩:∃ x,(b != 0)=x:=⟨_,rfl⟩
 obtain ⟨b5,h5⟩:∃ x,decide (0<n)=x:=⟨_,rfl⟩
 obtain ⟨b6,h6⟩:∃ x,decide (0<n2)=x:=⟨_,rfl⟩
 have HF:Hid (F=seven b0 b1 b2 b3 fin b5 b6):=by rw [← hF.out];unfold carB;rw [h0,h1,h2,h3,h5,h6];rfl
 have i0:∀ w,(Instr.index 126 (.agg #[.bool b0,.bool b1,.bool b2,.bool b3,.bool fin,.bool b5,.bool b6]) (.int .i64 0)).run Try.prog w=.ok (.bool b0) w:=fun _=>by kernel_rfl
 have i1:∀ w,(Instr.index 126 (.agg #[.bool b0,.bool b1,.bool b2,.bool b3,.bool fin,.bool b5,.bool b6]) (.int .i64 1)).run Try.prog w=.ok (.bool b1) w:=fun _=>by kernel_rfl
 have i2:∀ w,(Instr.index 126 (.agg #[.bool b0,.bool b1,.bool b2,.bool b3,.bool fin,.bool b5,.bool b6]) (.int .i64 2)).run Try.prog w=.ok (.bool b2) w:=fun _=>by kernel_rfl
 have i3:∀ w,(Instr.index 126 (.agg #[.bool b0,.bool b1,.bool b2,.bool b3,.bool fin,.bool b5,.bool b6]) (.int .i64 3)).run Try.prog w=.ok (.bool b3) w:=fun _=>by kernel_rfl
 have i4:∀ w,(Instr.index 126 (.agg #[.bool b0,.bool b1,.bool b2,.bool b3,.bool fin,.bool b5,.bool b6]) (.int .i64 4)).run Try.prog w=.ok (.bool fin) w:=fun _=>by kernel_rfl
 have i5:∀ w,(Instr.index 126 (.agg #[.bool b0,.bool b1,.bool b2,.bool b3,.bool fin,.bool b5,.bool b6]) (.int .i64 5)).run Try.prog w=.ok (.bool b5) w:=fun _=>by kernel_rfl
 have i6:∀ w,(Instr.index 126 (.agg #[.bool b0,.bool b1,.bool b2,.bool b3,.bool fin,.bool b5,.bool b6]) (.int .i64 6)).run Try.prog w=.ok (.bool b6) w:=fun _=>by kernel_rfl
 go_enter Try.func120,Try.ntmps120
 go_wp2_with fail
 go_loop [3,29] (fun p i=>∃ j:Nat,j≤7∧i=.int .i64 j∧p=.int .i64 (carI F j)) (fun _ i=>7 - (intOf i).toNat)
 case atStart=>exact ⟨0,by omega,rfl,rfl⟩
 case round =>
  clear h0 h1 h2 h3 h5 h6
  obtain ⟨j,hj,rfl,rfl⟩:=hrel
  obtain ⟨q,hq⟩:∃ q,Hid (carI F j=q):=⟨_,rfl⟩
  rw [hq.out]
  have hjc:j=0∨j=1∨j=2∨j=3∨j=4∨j=5∨j=6∨j=7:=by omega
  clear hj
  rcases hjc with rfl | rfl | rfl | rfl | rfl | rfl | rfl | rfl
  ·cases b0
   ·go_wp2_with fail
    go_round
    case rel=>exact ⟨1,by omega,rfl,by rw [carI_no (by rw [HF.out];rfl),hq.out]⟩
    case measure=>decide
   ·go_wp2_with fail
    go_round
    case rel=>exact ⟨1,by omega,rfl,by rw [carI_yes (by rw [HF.out];rfl),hq.out];rfl⟩
    case measure=>decide
  ·cases b1
   ·go_wp2_with fail
    go_round
    case rel=>exact ⟨2,by omega,rfl,by rw [carI_no (by rw [HF.out];rfl),hq.out]⟩
    case measure=>decide
   ·go_wp2_with fail
    go_round
    case rel=>exact ⟨2,by omega,rfl,by rw [carI_yes (by rw [HF.out];rfl),hq.out];rfl⟩
    case measure=>decide
  ·cases b2
   ·go_wp2_with fail
    go_round
    case rel=>exact ⟨3,by omega,rfl,by rw [carI_no (by rw [HF.out];rfl),hq.out]⟩
    case measure=>decide
   ·go_wp2_with fail
    go_round
    case rel=>exact ⟨3,by omega,rfl,by rw [carI_yes (by rw [HF.out];rfl),hq.out];rfl⟩
    case measure=>decide
  ·cases b3
   ·go_wp2_with fail
    go_round
    case rel=>exact ⟨4,by omega,rfl,by rw [carI_no (by rw [HF.out];rfl),hq.out]⟩
    case measure=>decide
   ·go_wp2_with fail
    go_round
    case rel=>exact ⟨4,by omega,rfl,by rw [carI_yes (by rw [HF.out];rfl),hq.out];rfl⟩
    case measure=>decide
  ·cases fin
   ·go_wp2_with fail
    go_round
    case rel=>exact ⟨5,by omega,rfl,by rw [carI_no (by rw [HF.out];rfl),hq.out]⟩
    case measure=>decide
   ·go_wp2_with fail
    go_round
    case rel=>exact ⟨5,by omega,rfl,by rw [carI_yes (by rw [HF.out];rfl),hq.out];rfl⟩
    case measure=>decide
  ·cases b5
   ·go_wp2_with fail
    go_round
    case rel=>exact ⟨6,by omega,rfl,by rw [carI_no (by rw [HF.out];rfl),hq.out]⟩
    case measure=>decide
   ·go_wp2_with fail
    go_round
    case rel=>exact ⟨6,by omega,rfl,by rw [carI_yes (by rw [HF.out];rfl),hq.out];rfl⟩
    case measure=>decide
  ·cases b6
   ·go_wp2_with fail
    go_round
    case rel=>exact ⟨7,by omega,rfl,by rw [carI_no (by rw [HF.out];rfl),hq.out]⟩
    case measure=>decide
   ·go_wp2_with fail
    go_round
    case rel=>exact ⟨7,by omega,rfl,by rw [carI_yes (by rw [HF.out];rfl),hq.out];rfl⟩
    case measure=>decide
  ·go_wp2_with fail
   go_ret
   exact ⟨ret_int hq.out.symm,(Below.refl _ _).alloc (Nat.le_refl _) _⟩
/-- A frame, plainly: its spans one behind the other, first and last. -/
structure Fr where
 k:Int
 id:Int
 off:Int
 a:Int
 b:Int
 note:Int
 fin:Bool
 data:List Nat
 spans:List Int
def rightB (f:Fr):Bool :=
 kn f.k && rnB f.id f.a f.off f.b && (bits .andNot .i64 (carI (carB f.id f.off f.a f.b f.fin f.data.length (f.spans.length / 2)) 7) (nm f.k:Int) == 0) && rdB f.k f.off f.data.length && ((bits .and .i64 (nm f.k:Int) 64 == 0) || rsB f.spans (f.spans.length / 2))
/-- A value that reads as a frame. -/
def IsFr (w:World) (B:Nat) (f:Fr) (A:Option Addr) (n c:Nat) (A2:Option Addr) (n2 c2:Nat):Prop :=
 f.data.length=n∧n≤c∧Rd w B A n (bv f.data)∧f.spans.length=n2 * 2∧n2≤c2∧Rd w B A2 (n2 * 2) (ints f.spans)
theorem IsFr.below {w w':World} {B B':Nat} {f:Fr} {A:Option Addr} {n c:Nat} {A2:Option Addr} {n2 c2:Nat} (h:IsFr w B f A n c A2 n2 c2) (hb:Below B' w w') (hB:B≤B'):IsFr w' B f A n c A2 n2 c2 :=
 ⟨h.1,h.2.1,h.2.2.1.below hb hB,h.2.2.2.1,h.2.2.2.2.1,h.2.2.2.2.2.below hb hB⟩
def frA (f:Fr) (A:Option Addr) (n c:Nat) (A2:Option Addr) (n2 c2:Nat):Value:=.agg #[.int .i64 f.k,.int .i64 f.id,.int .i64 f.off,.int .i64 f.a,.int .i64 f.b,.int .i64 f.note,.bool f.fin,.slice A n c,.slice A2 n2 c2]
theorem right_any (f:Fr) (B:Nat) (A:Option Addr) (n c:Nat) (A2:Option Addr) (n2 c2:Nat) (w:World) (h:IsFr w B f A n c A2 n2 c2) (hB:B≤w.heap.size) (hn:n≤140737488355328) (hn2:n2≤17592186044416) :
  Calls Try.prog 109 #[frA f A n c A2 n2 c2] w fun e w'=>e=.returned (.bool (rightB f))∧Below w.heap.size w w':=by
 obtain ⟨k,id,off,a,b,note,fin,data,spans⟩:=f
 obtain ⟨g1,g2,g3,g4,g5,g6⟩:=h
 simp only at g1 g3 g4 g6
 have hm2:spans.length / 2=n2:=by omega
 have HNA:=Lib.hid (names_any k)
 have HRN:=Lib.hid (fun W=>rnums_any k id off a b note fin A n c A2 n2 c2 W)
 have HCA:=Lib.hid (fun W=>carried_any k id off a b note fin A n c A2 n2 c2 W hn (by omega))
 have HRD:=Lib.hid (fun W=>rdata_any k id off a b note fin A n c A2 n2 c2 W hn)
 have HRS:Hid (∀ W,Below w.heap.size w W→Calls Try.prog 122 #[.slice A2 n2 c2] W fun e w'=>e=.returned (.bool (rsB spans n2))∧Below W.heap.size W w'):=fun W hW=>rspans_any spans n2 B A2 c2 W g4 (g6.below hW hB) (Nat.le_trans hB hW.size) hn2 g5
 have HR:Hid (rightB ⟨k,id,off,a,b,note,fin,data,spans⟩=(kn k && rnB id a off b && (bits .andNot .i64 (carI (carB id off a b fin n n2) 7) (nm k:Int) == 0) && rdB k off n && ((bits .and .i64 (nm k:Int) 64 == 0) || rsB spans n2))):=by
  show _=_
  unfold rightB
  simp only [hm2,g1]
 clear g1 g2 g3 g4 g5 g6 hm2 hB
 obtain ⟨ck,hck⟩:∃ x,Hid (kn k=x):=⟨_,rfl⟩
 obtain ⟨crn,hcrn⟩:∃ x,Hid (rnB id a off b=x):=⟨_,rfl⟩
 obtain ⟨ca,hca⟩:∃ x,Hid (carI (carB id off a b fin n n2) 7=x):=⟨_,rfl⟩
 obtain ⟨crd,hcrd⟩:∃ x,Hid (rdB k off n=x):=⟨_,rfl⟩
 obtain ⟨crs,hcrs⟩:∃ x,Hid (rsB spans n2=x):=⟨_,rfl⟩
 obtain ⟨N,hN⟩:∃ x,Hid ((nm k:Int)=x):=⟨_,rfl⟩
 rw [hck.out,hcrn.out,hca.out,hcrd.out,hcrs.out,hN.out] at HR
 rw [hck.out,hN.out] at HNA
 rw [hcrn.out] at HRN
 rw [hca.out] at HCA
 rw [hcrd.out] at HRD
 rw [hcrs.out] at HRS
 rw [HR.out]
 unfold frA
 go_enter Try.func109,Try.ntmps109
 go_wp2_with fail
 refine (HNA.out _).mono ?_
 rintro e w' ⟨rfl,rfl⟩
 cases ck
 ·
  go_wp2_with fail
  go_ret
  exact ⟨rfl,(Below.refl _ _).alloc (Nat.le_refl _) _⟩
 ·
  go_wp2_with fail
  refine (HRN.out _).mono ?_
  rintro e w1 ⟨rfl,hb1⟩
  obtain ⟨hc1,hf1⟩:=bcell hb1
  have hz1:w.heap.size<w1.heap.size:=by have:=hb1.size;(try simp at this);omega
  have HB1:Hid (Below w.heap.size w w1):=((Below.refl _ _).alloc (Nat.le_refl _) _).trans (hb1.mono (by simp))
  clear hb1
  cases crn
  ·
   go_wp2_with fail
   go_ret
   exact ⟨ret_bool (by rfl),HB1.out⟩
  ·
   go_wp2_with fail
   refine (HCA.out _).mono ?_
   rintro e w2 ⟨rfl,hb2⟩
   obtain ⟨hc2,hf2⟩:=bcell hb2
   have hz2:w.heap.size<w2.heap.size:=by have:=hb2.size;(try simp at this);omega
   have HB2:Hid (Below w.heap.size w w2):=HB1.out.trans (hb2.mono (Nat.le_of_lt hz1))
   clear hb2
   cases cz:(bits .andNot .i64 ca N == 0)
   ·
    go_wp2_with fail
    go_ret
    exact ⟨ret_bool (by rw [cz];rfl),HB2.out⟩
   ·
    go_wp2_with fail
    refine (HRD.out _).mono ?_
    rintro e w3 ⟨rfl,hb3⟩
    obtain ⟨hc3,hf3⟩:=bcell hb3
    have hz3:w.heap.size<w3.heap.size:=by have:=hb3.size;(try simp at this);omega
    have HB3:Hid (Below w.heap.size w w3):=HB2.out.trans (hb3.mono (Nat.le_of_lt hz2))
    clear hb3
    cases crd
    ·
     go_wp2_with fail
     go_ret
     exact ⟨ret_bool (by rw [cz];rfl),HB3.out⟩
    ·
     cases cs:(bits .and .i64 N 64 == 0)
     ·
      go_wp2_with fail
      refine (HRS.out _ HB3.out).mono ?_
      rintro e w4 ⟨rfl,hb4⟩
      obtain ⟨hc4,hf4⟩:=bcell hb4
      have hz4:w.heap.size<w4.heap.size:=by have:=hb4.size;(try simp at this);omega
      have HB4:Hid (Below w.heap.size w w4):=HB3.out.trans (hb4.mono (Nat.le_of_lt hz3))
      clear hb4
      cases crs
      ·
       go_wp2_with fail
       go_ret
       exact ⟨ret_bool (by rw [cz,cs];rfl),HB4.out⟩
      ·
       go_wp2_with fail
       go_ret
       exact ⟨ret_bool (by rw [cz,cs];rfl),HB4.out⟩
     ·
      go_wp2_with fail
      go_ret
      exact ⟨ret_bool (by rw [cz,cs];rfl),HB3.out⟩
end Go.Proofs.Ytoahkffdoaphlaa
