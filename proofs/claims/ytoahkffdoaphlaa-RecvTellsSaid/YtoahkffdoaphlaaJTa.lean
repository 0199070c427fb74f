/- Joined texts. Conditions: as each theorem lists them. -/
import Derived.Test.YtoahkffdoaphlaaJSd
set_option linter.unusedSimpArgs false
set_option linter.unusedVariables false
set_option maxRecDepth 100000
set_option maxHeartbeats 80000000
namespace Go.Proofs.Ytoahkffdoaphlaa.Sp.Ref
open Go Go.RowKit
/-- The reference's set at place o of block p, whose cells are cur: its runs are the edges, two and two. -/
def RefIn (w:World) (p o:Nat) (Tt:TypeId) (cur:Array Value) (es:List Int):Prop :=
 Ok es∧∃ A n c,es.length=n * 2∧(w.heap[p]?=some (.cells cur Tt (0,0))∧cur[o]?=some (.slice A n c))∧n≤c∧Rd w w.heap.size A (n * 2) (ints es)∧away A p
theorem RefIn.lt {w:World} {p o:Nat} {Tt:TypeId} {cur:Array Value} {es:List Int} (h:RefIn w p o Tt cur es):p<w.heap.size:=by
 obtain ⟨_,A,n,c,_,⟨h2,_⟩,_⟩:=h
 exact lt_of_block h2
theorem RefIn.below {w w':World} {p o:Nat} {Tt:TypeId} {cur:Array Value} {es:List Int} (h:RefIn w p o Tt cur es) (hb:Below w.heap.size w w'):RefIn w' p o Tt cur es:=by
 have hl:=h.lt
 obtain ⟨h1,A,n,c,h0,⟨h2,h3⟩,h4,h5,h6⟩:=h
 exact ⟨h1,A,n,c,h0,⟨(hb.block p hl).trans h2,h3⟩,h4,(h5.below hb (Nat.le_refl _)).more hb.size,h6⟩
theorem RefIn.same {w:World} {p o:Nat} {Tt:TypeId} {cur:Array Value} {es:List Int} (h:RefIn w p o Tt cur es):∃ v,RefIn w p o Tt (cur.setIfInBounds o v) es:=by
 obtain ⟨h1,A,n,c,h0,⟨h2,h3⟩,h4⟩:=h
 exact ⟨.slice A n c,h1,A,n,c,h0,⟨by rw [set_same h3];exact h2,slot_set h3⟩,h4⟩
theorem RefIn.but {w w':World} {p o q:Nat} {Tt:TypeId} {cur:Array Value} {es:List Int} (h:RefIn w p o Tt cur es) (hg:w.grownBy w' (some q)) (hpq:p≠q) (ha:∀ A n c,cur[o]?=some (.slice A n c)→away A q):RefIn w' p o Tt cur es:=by
 have hl:=h.lt
 obtain ⟨h1,A,n,c,h0,⟨h2,h3⟩,h4,h5,h6⟩:=h
 exact ⟨h1,A,n,c,h0,⟨(hg.block p hl (by simp;omega)).trans h2,h3⟩,h4,(rd_but h5 (Nat.le_refl _) hg (ha _ _ _ h3)).more hg.size,h6⟩
theorem RefIn.set {w:World} {p o j:Nat} {Tt:TypeId} {cur:Array Value} {es:List Int} (h:RefIn w p o Tt cur es) (hj:j≠o) (u:Value):RefIn (w.setCell ⟨p,j,none⟩ u) p o Tt (cur.setIfInBounds j u) es:=by
 obtain ⟨h1,A,n,c,h0,⟨h2,h3⟩,h4,h5,h6⟩:=h
 have hg:w.grownBy (w.setCell ⟨p,j,none⟩ u) (some p):=⟨rfl,rfl,rfl,by simp [World.setCell],fun k hk hne=>Below.heap_setCell _ _ _ _ (fun e=>hne (by simp [e]))⟩
 exact ⟨h1,A,n,c,h0,⟨set_slot h2 j u,(slot_other hj).trans h3⟩,h4,(rd_but h5 (Nat.le_refl _) hg h6).more hg.size,h6⟩
theorem wrap_two (s y x:Int) (h:0≤s+(y - x)∧s+(y - x)≤4611686018427387904):wrap64 (wrap64 (s+y) - x)=s+(y - x):=by unfold wrap64;omega
theorem ret_bool {a b:Bool} (h:a=b):Ending.returned (.bool a)=.returned (.bool b):=by rw [h]
/-- n lies in run k. -/
theorem run_up {es:List Int} (h:Ok es) (n:Int) (k:Nat) (hk:2 * k+1<es.length) (h1:es.getD (2 * k) 0≤n) (h2:n<es.getD (2 * k+1) 0):up es n=2 * k+1 :=
 up_at h.1 (2 * k+1) hk n (fun i hi=>by
  rcases Nat.lt_or_ge i (2 * k) with hlt | hge
  ·have:=get_mono h.1 i (2 * k) hlt (by omega);omega
  ·obtain rfl:i=2 * k:=by omega
   exact h1) h2
theorem odd_two (k:Nat):oddB (2 * k+1)=true:=by unfold oddB;rw [decide_eq_true];omega
theorem run_hit {es:List Int} (h:Ok es) (n:Int) (k:Nat) (hk:2 * k+1<es.length) (h1:es.getD (2 * k) 0≤n) (h2:n<es.getD (2 * k+1) 0):mem es n=true∧firstF es n=es.getD (2 * k+1) 0:=by
 have:=run_up h n k hk h1 h2
 refine ⟨by unfold mem;rw [this,odd_two],?_⟩
 unfold firstF
 rw [this,if_pos (odd_two k)]
theorem run_miss {es:List Int} (h:Ok es) (n:Int) (hm:∀ k,2 * k+1<es.length→¬ (es.getD (2 * k) 0≤n∧n<es.getD (2 * k+1) 0)):mem es n=false∧firstF es n=n:=by
 have ho:oddB (up es n)=false:=by
  cases hb:oddB (up es n) with
  | false=>rfl
  | true =>
    have hlt:=up_lt_of_odd h n hb
    unfold oddB at hb
    have h2:up es n % 2=1:=of_decide_eq_true hb
    obtain ⟨k,hk⟩:∃ k,up es n=2 * k+1:=⟨up es n / 2,by omega⟩
    have g1:=up_get h.1 n (2 * k) (by omega)
    have g2:=get_up h.1 n hlt
    rw [hk] at g2
    exact absurd ⟨g1,g2⟩ (hm k (by omega))
 refine ⟨ho,?_⟩
 unfold firstF
 rw [ho]
 rfl
theorem rcount_any (es:List Int) (p o:Nat) (Tt:TypeId) (cur:Array Value) (w:World) (h:RefIn w p o Tt cur es) (hm:es.length * 8≤140737488355328) :
  Calls Try.prog 49 #[.pointer (some ⟨p,o,none⟩)] w fun e w'=>e=.returned (.int .i64 (cnt es))∧Below w.heap.size w w':=by
 have HOk:=Lib.hid h.1
 obtain ⟨_,A,n,c,hn0,⟨hhp,hcur⟩,hnc,hrd,haw⟩:=h
 have HCU:=Lib.hid hcur
 have HHP:=Lib.hid hhp
 have hn:=Lib.hid hn0
 have HR:=Lib.hid hrd
 have hcell:w.cell? ⟨p,o,none⟩=some (.slice A n c):=cell_slot hhp hcur
 have hnb:(n:Int)≤17592186044416:=by have:=hn.out;omega
 have hncI:(n:Int)≤(c:Int):=by omega
 clear hhp hcur hrd haw hn0
 go_enter Try.func49,Try.ntmps49
 go_wp2_with fail
 go_loopw [3,4] (fun v i wr=>∃ k:Nat,k≤n∧i=.int .i64 k∧v=.int .i64 (cnt (es.take (2 * k)))∧Hid (∃ q,wr=w.drewN q)) (fun _ i _=>n - (intOf i).toNat)
 case atStart=>exact ⟨0,Nat.zero_le _,rfl,rfl,0,rfl⟩
 case round =>
  obtain ⟨k,hk,rfl,rfl,HK⟩:=hrel
  obtain ⟨q,hq⟩:=HK.out
  subst hq
  have hb0:=cnt_take_bound HOk.out k
  by_cases hlt:k<n
  ·have hlti:(k:Int)<(n:Int):=by omega
   obtain ⟨b,off,hA,hbn,hcs⟩:=HR.out.2 (by omega)
   subst hA
   have hl1:2 * k+1<es.length:=by have:=hn.out;omega
   obtain ⟨x,hx⟩:∃ x,Hid (es.getD (2 * k) 0=x):=⟨_,rfl⟩
   obtain ⟨y,hy⟩:∃ y,Hid (es.getD (2 * k+1) 0=y):=⟨_,rfl⟩
   have hcx:w.cell? ⟨b,off+k * 2,none⟩=some (.int .i64 x):=by
    rw [show off+k * 2=off+2 * k by omega,hcs (2 * k) _ (ints_get es _ (by omega)),hx.out]
   have hcy:w.cell? ⟨b,off+k * 2+1,none⟩=some (.int .i64 y):=by
    rw [show off+k * 2+1=off+(2 * k+1) by omega,hcs (2 * k+1) _ (ints_get es _ (by omega)),hy.out]
   clear hcs
   have hx0:=get_in HOk.out (2 * k) (by omega)
   have hy0:=get_in HOk.out (2 * k+1) (by omega)
   rw [hx.out] at hx0
   rw [hy.out] at hy0
   have hb1:=cnt_take_bound HOk.out (k+1)
   have hsn:Hid (cnt (es.take (2 * (k+1)))=cnt (es.take (2 * k))+(y - x)):=by
    show _=_
    rw [take_pair es k hl1,cnt_snoc _ _ _ (by rw [List.length_take];omega),hx.out,hy.out]
   rw [hsn.out] at hb1
   obtain ⟨s,hs⟩:∃ s,Hid (cnt (es.take (2 * k))=s):=⟨_,rfl⟩
   rw [hs.out] at hb0 hb1 hsn ⊢
   go_wp2_with fail
   go_quiet (fail)
   go_wp2_with fail
   go_roundw
   case rel=>exact ⟨k+1,by omega,by go_num,by rw [hsn.out,wrap_two _ _ _ hb1],_,rfl⟩
   case measure=>simp [intOf];omega
  ·have hlti:¬ (k:Int)<(n:Int):=by omega
   obtain rfl:k=n:=by omega
   go_wp2_with fail
   go_ret
   exact ⟨ret_int (by rw [List.take_of_length_le (by rw [hn.out];omega)]),⟨rfl,rfl,rfl,Nat.le_refl _,fun _ _=>rfl⟩⟩
theorem rfirst_any (es:List Int) (p o:Nat) (Tt:TypeId) (cur:Array Value) (m:Int) (w:World) (h:RefIn w p o Tt cur es) (hm:es.length * 8≤140737488355328) :
  Calls Try.prog 83 #[.pointer (some ⟨p,o,none⟩),.int .i64 m] w fun e w'=>e=.returned (.int .i64 (firstF es (max m 0)))∧w=w':=by
 have HOk:=Lib.hid h.1
 obtain ⟨_,A,n,c,hn0,⟨hhp,hcur⟩,hnc,hrd,haw⟩:=h
 have HCU:=Lib.hid hcur
 have hn:=Lib.hid hn0
 have HR:=Lib.hid hrd
 have hcell:w.cell? ⟨p,o,none⟩=some (.slice A n c):=cell_slot hhp hcur
 have hnb:(n:Int)≤17592186044416:=by have:=hn.out;omega
 have hncI:(n:Int)≤(c:Int):=by omega
 clear hhp hcur hrd haw hn0
 go_enter Try.func83,Try.ntmps83
 go_wp2_with fail
 go_loop [5] (fun i=>∃ k:Nat,k≤n∧i=.int .i64 k∧Hid (∀ j,j<k→¬ (es.getD (2 * j) 0≤max m 0∧max m 0<es.getD (2 * j+1) 0))) (fun i=>n - (intOf i).toNat)
 case atStart=>exact ⟨0,Nat.zero_le _,rfl,fun j hj=>by omega⟩
 case round =>
  obtain ⟨k,hk,rfl,HK⟩:=hrel
  by_cases hlt:k<n
  ·have hlti:(k:Int)<(n:Int):=by omega
   obtain ⟨b,off,hA,hbn,hcs⟩:=HR.out.2 (by omega)
   subst hA
   have hl1:2 * k+1<es.length:=by have:=hn.out;omega
   have HIT:=Lib.hid (run_hit HOk.out (max m 0) k hl1)
   obtain ⟨x,hx⟩:∃ x,Hid (es.getD (2 * k) 0=x):=⟨_,rfl⟩
   obtain ⟨y,hy⟩:∃ y,Hid (es.getD (2 * k+1) 0=y):=⟨_,rfl⟩
   have hcx:w.cell? ⟨b,off+k * 2,none⟩=some (.int .i64 x):=by
    rw [show off+k * 2=off+2 * k by omega,hcs (2 * k) _ (ints_get es _ (by omega)),hx.out]
   have hcy:w.cell? ⟨b,off+k * 2+1,none⟩=some (.int .i64 y):=by
    rw [show off+k * 2+1=off+(2 * k+1) by omega,hcs (2 * k+1) _ (ints_get es _ (by omega)),hy.out]
   rw [hx.out,hy.out] at HIT
   clear hcs
   have HNX:Hid (¬ (x≤max m 0∧max m 0<y)→∀ j,j<k+1→¬ (es.getD (2 * j) 0≤max m 0∧max m 0<es.getD (2 * j+1) 0)):=fun h j hj=>by
    rcases Nat.lt_or_ge j k with h1 | h1
    ·exact HK.out j h1
    ·obtain rfl:j=k:=by omega
     rw [hx.out,hy.out];exact h
   by_cases h1:x≤max m 0
   ·have d1:decide (x≤max m 0)=true:=decide_eq_true h1
    by_cases h2:max m 0<y
    ·have d2:decide (max m 0<y)=true:=decide_eq_true h2
     have HV:=Lib.hid (HIT.out h1 h2).2
     go_wp2_with fail
     go_ret
     exact ⟨ret_int HV.out.symm,rfl⟩
    ·have d2:decide (max m 0<y)=false:=decide_eq_false h2
     have HN:=Lib.hid (HNX.out (fun h=>h2 h.2))
     go_wp2_with fail
     go_round
     case rel=>exact ⟨k+1,by omega,by go_num,HN⟩
     case measure=>simp [intOf];omega
   ·have d1:decide (x≤max m 0)=false:=decide_eq_false h1
    have HN:=Lib.hid (HNX.out (fun h=>h1 h.1))
    go_wp2_with fail
    go_round
    case rel=>exact ⟨k+1,by omega,by go_num,HN⟩
    case measure=>simp [intOf];omega
  ·have hlti:¬ (k:Int)<(n:Int):=by omega
   obtain rfl:k=n:=by omega
   have HV:=Lib.hid (run_miss HOk.out (max m 0) (fun j hj=>HK.out j (by have:=hn.out;omega))).2
   go_wp2_with fail
   go_ret
   exact ⟨ret_int HV.out.symm,rfl⟩
theorem rhas_any (es:List Int) (p o:Nat) (Tt:TypeId) (cur:Array Value) (m:Int) (w:World) (h:RefIn w p o Tt cur es) (hm:es.length * 8≤140737488355328) :
  Calls Try.prog 51 #[.pointer (some ⟨p,o,none⟩),.int .i64 m] w fun e w'=>e=.returned (.bool (mem es m))∧w=w':=by
 have HOk:=Lib.hid h.1
 obtain ⟨_,A,n,c,hn0,⟨hhp,hcur⟩,hnc,hrd,haw⟩:=h
 have HCU:=Lib.hid hcur
 have hn:=Lib.hid hn0
 have HR:=Lib.hid hrd
 have hcell:w.cell? ⟨p,o,none⟩=some (.slice A n c):=cell_slot hhp hcur
 have hnb:(n:Int)≤17592186044416:=by have:=hn.out;omega
 have hncI:(n:Int)≤(c:Int):=by omega
 clear hhp hcur hrd haw hn0
 go_enter Try.func51,Try.ntmps51
 go_wp2_with fail
 go_loop [5] (fun i=>∃ k:Nat,k≤n∧i=.int .i64 k∧Hid (∀ j,j<k→¬ (es.getD (2 * j) 0≤m∧m<es.getD (2 * j+1) 0))) (fun i=>n - (intOf i).toNat)
 case atStart=>exact ⟨0,Nat.zero_le _,rfl,fun j hj=>by omega⟩
 case round =>
  obtain ⟨k,hk,rfl,HK⟩:=hrel
  by_cases hlt:k<n
  ·have hlti:(k:Int)<(n:Int):=by omega
   obtain ⟨b,off,hA,hbn,hcs⟩:=HR.out.2 (by omega)
   subst hA
   have hl1:2 * k+1<es.length:=by have:=hn.out;omega
   have HIT:=Lib.hid (run_hit HOk.out m k hl1)
   obtain ⟨x,hx⟩:∃ x,Hid (es.getD (2 * k) 0=x):=⟨_,rfl⟩
   obtain ⟨y,hy⟩:∃ y,Hid (es.getD (2 * k+1) 0=y):=⟨_,rfl⟩
   have hcx:w.cell? ⟨b,off+k * 2,none⟩=some (.int .i64 x):=by
    rw [show off+k * 2=off+2 * k by omega,hcs (2 * k) _ (ints_get es _ (by omega)),hx.out]
   have hcy:w.cell? ⟨b,off+k * 2+1,none⟩=some (.int .i64 y):=by
    rw [show off+k * 2+1=off+(2 * k+1) by omega,hcs (2 * k+1) _ (ints_get es _ (by omega)),hy.out]
   rw [hx.out,hy.out] at HIT
   clear hcs
   have HNX:Hid (¬ (x≤m∧m<y)→∀ j,j<k+1→¬ (es.getD (2 * j) 0≤m∧m<es.getD (2 * j+1) 0)):=fun h j hj=>by
    rcases Nat.lt_or_ge j k with h1 | h1
    ·exact HK.out j h1
    ·obtain rfl:j=k:=by omega
     rw [hx.out,hy.out];exact h
   by_cases h1:x≤m
   ·have d1:decide (x≤m)=true:=decide_eq_true h1
    by_cases h2:m<y
    ·have d2:decide (m<y)=true:=decide_eq_true h2
     have HV:=Lib.hid (HIT.out h1 h2).1
     go_wp2_with fail
     go_ret
     exact ⟨ret_bool HV.out.symm,rfl⟩
    ·have d2:decide (m<y)=false:=decide_eq_false h2
     have HN:=Lib.hid (HNX.out (fun h=>h2 h.2))
     go_wp2_with fail
     go_round
     case rel=>exact ⟨k+1,by omega,by go_num,HN⟩
     case measure=>simp [intOf];omega
   ·have d1:decide (x≤m)=false:=decide_eq_false h1
    have HN:=Lib.hid (HNX.out (fun h=>h1 h.1))
    go_wp2_with fail
    go_round
    case rel=>exact ⟨k+1,by omega,by go_num,HN⟩
    case measure=>simp [intOf];omega
  ·have hlti:¬ (k:Int)<(n:Int):=by omega
   obtain rfl:k=n:=by omega
   have HV:=Lib.hid (run_miss HOk.out m (fun j hj=>HK.out j (by have:=hn.out;omega))).1
   go_wp2_with fail
   go_ret
   exact ⟨ret_bool HV.out.symm,rfl⟩
end Go.Proofs.Ytoahkffdoaphlaa.Sp.Ref
namespace Go.Proofs.Ytoahkffdoaphlaa.Sp.Ref
open Go Go.RowKit
theorem rwithin_any (m:Int) (w:World) :
  Calls Try.prog 84 #[.int .i64 m,.int .i64 0,.int .i64 4611686018427387904] w fun e w'=>e=.returned (.int .i64 (clamp m))∧w=w':=by
 have hc:clamp m=min (max m 0) 4611686018427387904:=rfl
 obtain ⟨r,hr⟩:∃ r,Hid (clamp m=r):=⟨_,rfl⟩
 rw [hr.out] at hc ⊢
 have HC:=Lib.hid hc
 clear hc
 by_cases h1:m<0
 ·go_enter Try.func84,Try.ntmps84
  go_wp2
  all_goals go_ret
  all_goals exact ⟨ret_int (by have:=HC.out;omega),rfl⟩
 ·by_cases h2:4611686018427387904<m
  ·go_enter Try.func84,Try.ntmps84
   go_wp2
   all_goals go_ret
   all_goals exact ⟨ret_int (by have:=HC.out;omega),rfl⟩
  ·go_enter Try.func84,Try.ntmps84
   go_wp2
   all_goals go_ret
   all_goals exact ⟨ret_int (by have:=HC.out;omega),rfl⟩
end Go.Proofs.Ytoahkffdoaphlaa.Sp.Ref
namespace Go.Proofs.Ytoahkffdoaphlaa.Sp.Ref
open Go Go.RowKit
/-- What Drop has made, behind k runs. -/
def DropW (w wr:World) (es:List Int) (f t:Int) (k:Nat) (v:Value):Prop :=
 ∃ (no:Nat) (out:List Int),DropI es f t k out∧out.length=no * 2∧wr.ownsRow w.heap.size 88 2 v no (ints out)∧Below w.heap.size w wr
/-- A row of runs of the call's own, and the run at hand in its variable. -/
def PP (w wx:World) (px:Nat) (x y:Int) (outl:List Int) (A:Option Addr) (n c:Nat):Prop :=
 outl.length=n * 2∧wx.ownsRow w.heap.size 88 2 (.slice A n c) n (ints outl)∧Below w.heap.size w wx∧wx.heap[px]?=some (.cells #[.int .i64 x,.int .i64 y] 88 (0,0))
theorem two_cells {w:World} {px:Nat} {x y:Int} {T:TypeId} (h:w.heap[px]?=some (.cells #[.int .i64 x,.int .i64 y] T (0,0))):w.cell? ⟨px,0,none⟩=some (.int .i64 x)∧w.cell? ⟨px,1,none⟩=some (.int .i64 y) :=
 ⟨by rw [Am.cell_of w px 0 _ T (0,0) h];rfl,by rw [Am.cell_of w px 1 _ T (0,0) h];rfl⟩
theorem rdrop_do (es:List Int) (p o:Nat) (Tt:TypeId) (cur:Array Value) (f0 t0:Int) (w:World) (h:RefIn w p o Tt cur es) (hm:(es.length+1) * 32≤140737488355328) (hft:clamp f0<clamp t0) :
  Calls Try.prog 65 #[.pointer (some ⟨p,o,none⟩),.int .i64 f0,.int .i64 t0] w fun e w'=>e=.returned (.tuple #[])∧(∃ v,RefIn w' p o Tt (cur.setIfInBounds o v) (turnF es (clamp f0) (clamp t0) false))∧w.grownBy w' (some p):=by
 have cf:=clamp_in f0
 have ct:=clamp_in t0
 have W1:=Lib.hid (fun W=>rwithin_any f0 W)
 have W2:=Lib.hid (fun W=>rwithin_any t0 W)
 obtain ⟨f,hf⟩:∃ x,Hid (clamp f0=x):=⟨_,rfl⟩
 obtain ⟨t,ht⟩:∃ x,Hid (clamp t0=x):=⟨_,rfl⟩
 rw [hf.out] at W1 cf hft ⊢
 rw [ht.out] at W2 ct hft ⊢
 have hle:¬ t≤f:=by omega
 have hpz:=h.lt
 have HOk:=Lib.hid h.1
 obtain ⟨_,A,n,c,hn0,⟨hhp,hcur⟩,hnc,hrd,haw⟩:=h
 have HCU:=Lib.hid hcur
 have hn:=Lib.hid hn0
 have HR:=Lib.hid hrd
 have HHP:=Lib.hid hhp
 have hnb:(n:Int)≤2199023255552:=by omega
 have hncI:(n:Int)≤(c:Int):=by omega
 obtain ⟨i0,hi,hz0,hz1,hz2⟩:=info_parts infoP
 have HI:=Lib.hid (And.intro hi (And.intro hz0 (And.intro hz1 hz2)))
 have hcell:w.cell? ⟨p,o,none⟩=some (.slice A n c):=cell_slot hhp hcur
 clear hhp hcur hrd haw hn0 hi hz0 hz1 hz2
 go_enter Try.func65,Try.ntmps65
 go_wp2_with fail
 refine (W1.out _).mono ?_;rintro e w' ⟨rfl,rfl⟩
 go_wp2_with fail
 refine (W2.out _).mono ?_;rintro e w' ⟨rfl,rfl⟩
 go_wp2_with fail
 go_loopw [6,7] (fun v i wr=>∃ k:Nat,k≤n∧i=.int .i64 k∧(∃ Ao no co,v=.slice Ao no co)∧Hid (DropW w wr es f t k v)) (fun _ i _=>n - (intOf i).toNat)
 case atStart=>exact ⟨0,Nat.zero_le _,rfl,⟨_,_,_,rfl⟩,0,[],DropI.nil es f t,rfl,own_nil _ _ _ _,Below.refl _ _⟩
 case round =>
  clear hcell
  obtain ⟨k,hk,rfl,⟨Ao,no',co,rfl⟩,HK⟩:=hrel
  obtain ⟨no,out,hd,hol,hown,hbw⟩:=HK.out
  obtain ⟨Ax,cx,ex,_⟩:=own_form hown
  simp only [Value.slice.injEq] at ex
  obtain ⟨rfl,rfl,rfl⟩:=ex
  have HD:=Lib.hid hd
  have HOL:=Lib.hid hol
  have HO:=Lib.hid hown
  have HB:=Lib.hid hbw
  have hcellr:wr.cell? ⟨p,o,none⟩=some (.slice A n c):=by rw [hbw.cell (p:=⟨p,o,none⟩) hpz];exact cell_slot HHP.out HCU.out
  clear HK hd hol hown hbw
  by_cases hlt:k<n
  ·have hlti:(k:Int)<(n:Int):=by omega
   obtain ⟨b,off,hA,hbn,hcs⟩:=HR.out.2 (by omega)
   subst hA
   have hl1:2 * k+1<es.length:=by have:=hn.out;omega
   have HST:=Lib.hid (HD.out.step HOk.out hft hl1)
   obtain ⟨x,hx⟩:∃ x,Hid (es.getD (2 * k) 0=x):=⟨_,rfl⟩
   obtain ⟨y,hy⟩:∃ y,Hid (es.getD (2 * k+1) 0=y):=⟨_,rfl⟩
   have hcx:wr.cell? ⟨b,off+k * 2,none⟩=some (.int .i64 x):=by
    rw [HB.out.cell (p:=⟨b,off+k * 2,none⟩) hbn,show off+k * 2=off+2 * k by omega,hcs (2 * k) _ (ints_get es _ (by omega)),hx.out]
   have hcy:wr.cell? ⟨b,off+k * 2+1,none⟩=some (.int .i64 y):=by
    rw [HB.out.cell (p:=⟨b,off+k * 2+1,none⟩) hbn,show off+k * 2+1=off+(2 * k+1) by omega,hcs (2 * k+1) _ (ints_get es _ (by omega)),hy.out]
   rw [hx.out,hy.out] at HST
   clear hcs
   have nb:=World.new_ne wr _ hcx
   have hnob:no'≤2 * n:=by have h1:=HD.out.2.2.2;have h2:=HOL.out;omega
   obtain ⟨wa,hwa⟩:∃ wa,Hid (wr.alloc (.cells #[.int .i64 x,.int .i64 y] 88)=wa):=⟨_,rfl⟩
   have HX:Hid (wa.heap[wr.heap.size]?=some (.cells #[.int .i64 x,.int .i64 y] 88 (0,0))∧wa.heap.size=wr.heap.size+1∧Below wr.heap.size wr wa):=by
    rw [← hwa.out];exact ⟨heap_alloc_new _ _,by simp,(Below.refl _ _).alloc (Nat.le_refl _) _⟩
   obtain ⟨px,hpx⟩:∃ px,Hid (wr.heap.size=px):=⟨_,rfl⟩
   have HO1:Hid (wa.ownsRow w.heap.size 88 2 (.slice Ao no' co) no' (ints out)∧(∀ g,(Value.slice Ao no' co).ownBlock=some g→g<px)):=by
    refine ⟨?_,fun g hg=>by rw [← hpx.out];exact (HO.out.lt g hg).2⟩
    rw [← hwa.out];exact HO.out.alloc _
   have HBa:Hid (Below w.heap.size w wa):=HB.out.trans (HX.out.2.2.mono HB.out.size)
   rw [hpx.out] at HX
   go_upto_if 38 with (fail)
   rw [hwa.out,hpx.out]
   go_cut [6] (fun v wx=>∃ (A1:Option Addr) (n1 c1:Nat),v=.slice A1 n1 c1∧n1≤no'+1∧Hid (PP w wx px x y (drop1 out x y f) A1 n1 c1))
   case first =>
    have hcc:=two_cells HX.out.1
    obtain ⟨hc0,hc1⟩:=hcc
    by_cases c1:x<min y f
    ·have HD1:Hid (drop1 out x y f=out ++ [x,min y f]):=by show _=_;unfold drop1;rw [if_pos c1]
     have d1:decide (x<min y f)=true:=decide_eq_true c1
     have hb2:Hid (w.heap.size≤(wa.alloc (.cells #[.int .i64 (x),.int .i64 (min y f)] 88)).heap.size):=by have:=HBa.out.size;show _≤_;simp only [World.size_alloc];omega
     go_wp2_with (at_builtin;refine wpList_app _ rfl (.tmp 39) (.tmp 47) 48 rfl w.heap.size 88 i0 (.agg #[.int .i64 0,.int .i64 0]) 2 16 Try.underlying48 HI.out.1 HI.out.2.1 HI.out.2.2.1 HI.out.2.2.2 rfl (by decide) (.slice Ao no' co) no' (ints (out)) rfl (HO1.out.1.alloc _) (wa.heap.size+1) (some ⟨wa.heap.size,0,none⟩) 1 1 (ints [x,min y f]) rfl (rd_new _ _ _ _ _ _ _ rfl (by omega) rfl rfl) (ones_ints _) (by unfold maxLen;omega) (by omega) hb2.out ?_)
     intro v1 w1 hown1 hgrow1
     obtain ⟨A1,c1,e1,_⟩:=own_form hown1
     subst e1
     rw [← ints_app] at hown1
     have HN:Hid (PP w w1 px x y (drop1 out x y f) A1 (no'+1) c1):=by
      refine ⟨by rw [HD1.out,List.length_append,HOL.out];simp;omega,by rw [HD1.out];exact hown1,(HBa.out.alloc HBa.out.size _).grown hgrow1 hb2.out (fun g hg=>(HO1.out.1.lt g hg).1),?_⟩
      rw [hgrow1.block px (by have:=HX.out.2.1;simp only [World.size_alloc];omega) (fun e=>by have:=HO1.out.2 px e.symm;omega)]
      exact (((Below.refl _ _).alloc (Nat.le_refl _) _).block px (by have:=HX.out.2.1;omega)).trans HX.out.1
     clear hown1 hgrow1
     go_wp2_with fail
     go_meet
     case rel=>exact ⟨_,_,_,rfl,Nat.le_refl _,HN⟩
    ·have HD1:Hid (drop1 out x y f=out):=by show _=_;unfold drop1;rw [if_neg c1]
     have d1:decide (x<min y f)=false:=decide_eq_false c1
     have HN:Hid (PP w wa px x y (drop1 out x y f) Ao no' co):=by rw [HD1.out];exact ⟨HOL.out,HO1.out.1,HBa.out,HX.out.1⟩
     go_wp2_with fail
     go_meet
     case rel=>exact ⟨_,_,_,rfl,by omega,HN⟩
   case rest =>
   obtain ⟨A1,n1,c1,rfl,hn1,HP⟩:=hcut
   obtain ⟨wb,hwb⟩:∃ wb:World,wc=wb:=⟨_,rfl⟩
   subst hwb
   obtain ⟨o1,ho1⟩:∃ o,Hid (drop1 out x y f=o):=⟨_,rfl⟩
   rw [ho1.out] at HP HST
   have hcc:=two_cells HP.out.2.2.2
   obtain ⟨hc0,hc1⟩:=hcc
   by_cases c2:max x t<y
   ·have HD2:Hid (drop2 o1 x y t=o1 ++ [max x t,y]):=by show _=_;unfold drop2;rw [if_pos c2]
    have d2:decide (max x t<y)=true:=decide_eq_true c2
    have hb2:Hid (w.heap.size≤(wc.alloc (.cells #[.int .i64 (max x t),.int .i64 (y)] 88)).heap.size):=by have:=HP.out.2.2.1.size;show _≤_;simp only [World.size_alloc];omega
    go_wp2_with (at_builtin;refine wpList_app _ rfl (.tmp 56) (.tmp 64) 48 rfl w.heap.size 88 i0 (.agg #[.int .i64 0,.int .i64 0]) 2 16 Try.underlying48 HI.out.1 HI.out.2.1 HI.out.2.2.1 HI.out.2.2.2 rfl (by decide) (.slice A1 n1 c1) n1 (ints (o1)) rfl (HP.out.2.1.alloc _) (wc.heap.size+1) (some ⟨wc.heap.size,0,none⟩) 1 1 (ints [max x t,y]) rfl (rd_new _ _ _ _ _ _ _ rfl (by omega) rfl rfl) (ones_ints _) (by unfold maxLen;omega) (by omega) hb2.out ?_)
    intro v1 w1 hown1 hgrow1
    obtain ⟨A2,c2',e1,_⟩:=own_form hown1
    subst e1
    rw [← ints_app] at hown1
    have HN:Hid (DropW w w1 es f t (k+1) (.slice A2 (n1+1) c2')):=by
     refine ⟨n1+1,_,HST.out,by rw [HD2.out,List.length_append,HP.out.1];simp;omega,by rw [HD2.out];exact hown1,(HP.out.2.2.1.alloc HP.out.2.2.1.size _).grown hgrow1 hb2.out (fun g hg=>(HP.out.2.1.lt g hg).1)⟩
    clear hown1 hgrow1
    go_wp2_with fail
    go_roundw
    case rel=>exact ⟨k+1,by omega,by go_num,⟨_,_,_,rfl⟩,HN⟩
    case measure=>simp [intOf];omega
   ·have HD2:Hid (drop2 o1 x y t=o1):=by show _=_;unfold drop2;rw [if_neg c2]
    have d2:decide (max x t<y)=false:=decide_eq_false c2
    have HN:Hid (DropW w wc es f t (k+1) (.slice A1 n1 c1)):=⟨n1,_,HST.out,by rw [HD2.out];exact HP.out.1,by rw [HD2.out];exact HP.out.2.1,HP.out.2.2.1⟩
    go_wp2_with fail
    go_roundw
    case rel=>exact ⟨k+1,by omega,by go_num,⟨_,_,_,rfl⟩,HN⟩
    case measure=>simp [intOf];omega
  ·have hlti:¬ (k:Int)<(n:Int):=by omega
   obtain rfl:k=n:=by omega
   have HE:=Lib.hid (drop_eq HOk.out cf.1 hft ct.2 k hn.out HD.out)
   have hhp:wr.heap[p]?=some (.cells cur Tt (0,0)):=(HB.out.block p hpz).trans HHP.out
   have HHP2:=Lib.hid hhp
   have hfz:wr.frozen? ⟨p,o,none⟩=false:=free_slot hhp
   clear hhp
   go_wp2_with fail
   go_end0
   have HG:Hid (wr.grownBy (wr.setCell ⟨p,o,none⟩ (.slice Ao no' co)) (some p)):=grown_of (Below.refl _ _) p o _
   have hk2:=HO.out.kept HG.out (by
    by_cases hb:(Value.slice Ao no' co).ownBlock=none
    ·exact .inl hb
    ·exact .inr fun e=>by have:=(HO.out.lt p e).1;omega)
   obtain ⟨_,_,e,hnc2,_,_,hrd2⟩:=own_form hk2
   simp only [Value.slice.injEq] at e
   obtain ⟨rfl,_,rfl⟩:=e
   refine ⟨rfl,⟨_,ok_turnF es f t false HOk.out cf.1 hft ct.2,Ao,no',co,by rw [← HE.out];exact HOL.out,⟨set_slot HHP2.out o _,slot_set HCU.out⟩,hnc2,by rw [← HE.out];exact hrd2,own_away HO.out hpz⟩,grown_of HB.out p o _⟩
theorem rdrop_any (es:List Int) (p o:Nat) (Tt:TypeId) (cur:Array Value) (f t:Int) (w:World) (h:RefIn w p o Tt cur es) (hm:(es.length+1) * 32≤140737488355328) :
  Calls Try.prog 65 #[.pointer (some ⟨p,o,none⟩),.int .i64 f,.int .i64 t] w fun e w'=>e=.returned (.tuple #[])∧(∃ v,RefIn w' p o Tt (cur.setIfInBounds o v) (turn es f t false))∧w.grownBy w' (some p):=by
 unfold turn
 by_cases hft:clamp t≤clamp f
 ·rw [if_pos hft]
  have W1:=Lib.hid (fun W=>rwithin_any f W)
  have W2:=Lib.hid (fun W=>rwithin_any t W)
  obtain ⟨f',hf⟩:∃ x,Hid (clamp f=x):=⟨_,rfl⟩
  obtain ⟨t',ht⟩:∃ x,Hid (clamp t=x):=⟨_,rfl⟩
  rw [hf.out] at W1 hft
  rw [ht.out] at W2 hft
  have HH:=Lib.hid h
  clear h
  go_enter Try.func65,Try.ntmps65
  go_wp2_with fail
  refine (W1.out _).mono ?_;rintro e w' ⟨rfl,rfl⟩
  go_wp2_with fail
  refine (W2.out _).mono ?_;rintro e w' ⟨rfl,rfl⟩
  go_wp2_with fail
  have HE:Hid ((∃ v,RefIn w p o Tt (cur.setIfInBounds o v) es)∧w.grownBy w (some p)):=⟨HH.out.same,⟨rfl,rfl,rfl,Nat.le_refl _,fun _ _ _=>rfl⟩⟩
  first | (go_end0;exact ⟨rfl,HE.out⟩) | exact bodyPost_ret (v:=.tuple #[]) (by simp [results,Try.results65,go_sem]) rfl ⟨rfl,HE.out⟩
 ·rw [if_neg hft]
  exact rdrop_do es p o Tt cur f t w h hm (by omega)
/-- What Add has made, behind k runs. -/
def AddW (w wr:World) (es:List Int) (f t:Int) (k:Nat) (F T:Int) (d:Bool) (v:Value) (no:Nat):Prop :=
 ∃ out:List Int,AddI es f t k F T d out∧out.length=no * 2∧wr.ownsRow w.heap.size 88 2 v no (ints out)∧Below w.heap.size w wr
theorem ow_len {out:List Int} {no:Nat} (h:out.length=no * 2) (x y:Int):(out ++ [x,y]).length=(no+1) * 2:=by simp [h];omega
theorem radd_do (es:List Int) (p o:Nat) (Tt:TypeId) (cur:Array Value) (f0 t0:Int) (w:World) (h:RefIn w p o Tt cur es) (hm:(es.length+2) * 32≤140737488355328) (hft:clamp f0<clamp t0) :
  Calls Try.prog 61 #[.pointer (some ⟨p,o,none⟩),.int .i64 f0,.int .i64 t0] w fun e w'=>e=.returned (.tuple #[])∧(∃ v,RefIn w' p o Tt (cur.setIfInBounds o v) (turnF es (clamp f0) (clamp t0) true))∧w.grownBy w' (some p):=by
 have cf:=clamp_in f0
 have ct:=clamp_in t0
 have W1:=Lib.hid (fun W=>rwithin_any f0 W)
 have W2:=Lib.hid (fun W=>rwithin_any t0 W)
 obtain ⟨f,hf⟩:∃ x,Hid (clamp f0=x):=⟨_,rfl⟩
 obtain ⟨t,ht⟩:∃ x,Hid (clamp t0=x):=⟨_,rfl⟩
 rw [hf.out] at W1 cf hft ⊢
 rw [ht.out] at W2 ct hft ⊢
 have hle:¬ t≤f:=by omega
 have hpz:=h.lt
 have HOk:=Lib.hid h.1
 obtain ⟨_,A,n,c,hn0,⟨hhp,hcur⟩,hnc,hrd,haw⟩:=h
 have HCU:=Lib.hid hcur
 have hn:=Lib.hid hn0
 have HR:=Lib.hid hrd
 have HHP:=Lib.hid hhp
 have hnb:(n:Int)≤2199023255552:=by omega
 have hncI:(n:Int)≤(c:Int):=by omega
 obtain ⟨i0,hi,hz0,hz1,hz2⟩:=info_parts infoP
 have HI:=Lib.hid (And.intro hi (And.intro hz0 (And.intro hz1 hz2)))
 have hcell:w.cell? ⟨p,o,none⟩=some (.slice A n c):=cell_slot hhp hcur
 clear hhp hcur hrd haw hn0 hi hz0 hz1 hz2
 go_enter Try.func61,Try.ntmps61
 go_wp2_with fail
 refine (W1.out _).mono ?_;rintro e w' ⟨rfl,rfl⟩
 go_wp2_with fail
 refine (W2.out _).mono ?_;rintro e w' ⟨rfl,rfl⟩
 go_wp2_with fail
 go_loopw [1,2,6,7,8] (fun vf vt v vd i wr=>∃ (k no:Nat) (F T:Int) (d:Bool),k≤n∧no≤k+1∧i=.int .i64 k∧vf=.int .i64 F∧vt=.int .i64 T∧vd=.bool d∧(∃ Ao co,v=.slice Ao no co)∧Hid (AddW w wr es f t k F T d v no)) (fun _ _ _ _ i _=>n - (intOf i).toNat)
 case atStart=>exact ⟨0,0,f,t,false,Nat.zero_le _,by omega,rfl,rfl,rfl,rfl,⟨_,_,rfl⟩,[],AddI.nil es f t cf.1 hft ct.2,rfl,own_nil _ _ _ _,Below.refl _ _⟩
 case round =>
  clear hcell
  obtain ⟨k,no,F,T,d,hk,hno,rfl,rfl,rfl,rfl,⟨Ao,co,rfl⟩,HK⟩:=hrel
  obtain ⟨out,hd,hol,hown,hbw⟩:=HK.out
  have HD:=Lib.hid hd
  have HOL:=Lib.hid hol
  have HO:=Lib.hid hown
  have HB:=Lib.hid hbw
  have hlo:=hd.lo
  have hlt0:=hd.lt
  have hhi:=hd.hi
  have hcellr:wr.cell? ⟨p,o,none⟩=some (.slice A n c):=by rw [hbw.cell (p:=⟨p,o,none⟩) hpz];exact cell_slot HHP.out HCU.out
  clear HK hd hol hown hbw
  by_cases hlt:k<n
  ·have hlti:(k:Int)<(n:Int):=by omega
   obtain ⟨b,off,hA,hbn,hcs⟩:=HR.out.2 (by omega)
   subst hA
   have hl1:2 * k+1<es.length:=by have:=hn.out;omega
   obtain ⟨x,hx⟩:∃ x,Hid (es.getD (2 * k) 0=x):=⟨_,rfl⟩
   obtain ⟨y,hy⟩:∃ y,Hid (es.getD (2 * k+1) 0=y):=⟨_,rfl⟩
   have hxy:=get_mono HOk.out.1 (2 * k) (2 * k+1) (by omega) hl1
   rw [hx.out,hy.out] at hxy
   have hcx:wr.cell? ⟨b,off+k * 2,none⟩=some (.int .i64 x):=by
    rw [HB.out.cell (p:=⟨b,off+k * 2,none⟩) hbn,show off+k * 2=off+2 * k by omega,hcs (2 * k) _ (ints_get es _ (by omega)),hx.out]
   have hcy:wr.cell? ⟨b,off+k * 2+1,none⟩=some (.int .i64 y):=by
    rw [HB.out.cell (p:=⟨b,off+k * 2+1,none⟩) hbn,show off+k * 2+1=off+(2 * k+1) by omega,hcs (2 * k+1) _ (ints_get es _ (by omega)),hy.out]
   clear hcs
   have nb:=World.new_ne wr _ hcx
   have HBa:Hid (Below w.heap.size w (wr.alloc (.cells #[.int .i64 x,.int .i64 y] 88))):=HB.out.alloc HB.out.size _
   have HOa:Hid ((wr.alloc (.cells #[.int .i64 x,.int .i64 y] 88)).ownsRow w.heap.size 88 2 (.slice Ao no co) no (ints out)):=HO.out.alloc _
   have hb2:Hid (∀ o o2:Obj,w.heap.size≤((wr.alloc o).alloc o2).heap.size):=fun o o2=>by have:=HB.out.size;simp only [World.size_alloc];omega
   have hno':no≤2199023255553:=by omega
   have HNA:Hid (AddI es f t (k+1) F T d (out ++ [x,y])→∀ A1 c1 w1,w1.ownsRow w.heap.size 88 2 (.slice A1 (no+1) c1) (no+1) (ints out ++ ints [x,y])→((wr.alloc (.cells #[.int .i64 x,.int .i64 y] 88)).alloc (.cells #[.int .i64 x,.int .i64 y] 88)).grownBy w1 (Value.slice Ao no co).ownBlock→AddW w w1 es f t (k+1) F T d (.slice A1 (no+1) c1) (no+1)):=fun hI A1 c1 w1 hown1 hgrow1 =>
    ⟨out ++ [x,y],hI,ow_len HOL.out x y,by rw [ints_app];exact hown1,(HBa.out.alloc HBa.out.size _).grown hgrow1 (hb2.out _ _) (fun g hg=>(HOa.out.lt g hg).1)⟩
   cases d with
   | true =>
     have HBH:=Lib.hid (HD.out.behind HOk.out hl1).2.2
     have hTx:=(HD.out.done rfl).1 (2 * k) (Nat.le_refl _) (by omega)
     rw [hx.out] at hTx
     rw [hx.out,hy.out] at HBH
     have t1:decide (y<F)=false:=decide_eq_false (by omega)
     have t2:decide (T<x)=true:=decide_eq_true (by omega)
     have q1:¬ y<F:=by omega
     go_wp2_with (at_builtin;refine wpList_app _ rfl (.tmp 53) (.tmp 55) 48 rfl w.heap.size 88 i0 (.agg #[.int .i64 0,.int .i64 0]) 2 16 Try.underlying48 HI.out.1 HI.out.2.1 HI.out.2.2.1 HI.out.2.2.2 rfl (by decide) (.slice Ao no co) no (ints out) rfl (HOa.out.alloc _) ((wr.alloc (.cells #[.int .i64 x,.int .i64 y] 88)).heap.size+1) (some ⟨(wr.alloc (.cells #[.int .i64 x,.int .i64 y] 88)).heap.size,0,none⟩) 1 1 (ints [x,y]) (by simp [Act.eval]) (rd_new _ _ _ _ _ _ _ rfl (by omega) rfl rfl) (ones_ints _) (by unfold maxLen;omega) (by omega) (hb2.out _ _) ?_)
     intro v1 w1 hown1 hgrow1
     obtain ⟨A1,c1,e1,_⟩:=own_form hown1
     subst e1
     have HN:=Lib.hid (HNA.out HBH.out A1 c1 w1 hown1 hgrow1)
     clear hown1 hgrow1
     go_wp2_with fail
     go_roundw
     case rel=>exact ⟨k+1,no+1,F,T,true,by omega,by omega,by go_num,rfl,rfl,rfl,⟨_,_,rfl⟩,HN⟩
     case measure=>simp [intOf];omega
   | false =>
     by_cases h1:y<F
     ·have HAH:=Lib.hid (HD.out.ahead HOk.out hl1 (by rw [hy.out];exact h1))
      rw [hx.out,hy.out] at HAH
      have t1:decide (y<F)=true:=decide_eq_true h1
      go_wp2_with (at_builtin;refine wpList_app _ rfl (.tmp 37) (.tmp 39) 48 rfl w.heap.size 88 i0 (.agg #[.int .i64 0,.int .i64 0]) 2 16 Try.underlying48 HI.out.1 HI.out.2.1 HI.out.2.2.1 HI.out.2.2.2 rfl (by decide) (.slice Ao no co) no (ints out) rfl (HOa.out.alloc _) ((wr.alloc (.cells #[.int .i64 x,.int .i64 y] 88)).heap.size+1) (some ⟨(wr.alloc (.cells #[.int .i64 x,.int .i64 y] 88)).heap.size,0,none⟩) 1 1 (ints [x,y]) (by simp [Act.eval]) (rd_new _ _ _ _ _ _ _ rfl (by omega) rfl rfl) (ones_ints _) (by unfold maxLen;omega) (by omega) (hb2.out _ _) ?_)
      intro v1 w1 hown1 hgrow1
      obtain ⟨A1,c1,e1,_⟩:=own_form hown1
      subst e1
      have HN:=Lib.hid (HNA.out HAH.out A1 c1 w1 hown1 hgrow1)
      clear hown1 hgrow1
      go_wp2_with fail
      go_roundw
      case rel=>exact ⟨k+1,no+1,F,T,false,by omega,by omega,by go_num,rfl,rfl,rfl,⟨_,_,rfl⟩,HN⟩
      case measure=>simp [intOf];omega
     ·have t1:decide (y<F)=false:=decide_eq_false h1
      by_cases h2:T<x
      ·have t2:decide (T<x)=true:=decide_eq_true h2
       have HON:=Lib.hid (HD.out.out_now (ahead_of HOk.out hl1 (by rw [hx.out];exact h2)))
       have HBH:=Lib.hid (HON.out.behind HOk.out hl1).2.2
       rw [hx.out,hy.out] at HBH
       go_wp2_with (at_builtin;refine wpList_app _ rfl (.tmp 47) (.tmp 51) 48 rfl w.heap.size 88 i0 (.agg #[.int .i64 0,.int .i64 0]) 2 16 Try.underlying48 HI.out.1 HI.out.2.1 HI.out.2.2.1 HI.out.2.2.2 rfl (by decide) (.slice Ao no co) no (ints out) rfl (HOa.out.alloc _) ((wr.alloc (.cells #[.int .i64 x,.int .i64 y] 88)).heap.size+1) (some ⟨(wr.alloc (.cells #[.int .i64 x,.int .i64 y] 88)).heap.size,0,none⟩) 1 1 (ints [F,T]) (by simp [Act.eval]) (rd_new _ _ _ _ _ _ _ rfl (by omega) rfl rfl) (ones_ints _) (by unfold maxLen;omega) (by omega) (hb2.out _ _) ?_)
       intro v1 w1 hown1 hgrow1
       obtain ⟨A1,c1,e1,_⟩:=own_form hown1
       subst e1
       have HO1:Hid (w1.ownsRow w.heap.size 88 2 (.slice A1 (no+1) c1) (no+1) (ints (out ++ [F,T]))):=by rw [ints_app];exact hown1
       have HB1:Hid (Below w.heap.size w w1):=(HBa.out.alloc HBa.out.size _).grown hgrow1 (hb2.out _ _) (fun g hg=>(HOa.out.lt g hg).1)
       have hne:(Value.slice Ao no co).ownBlock≠some wr.heap.size:=fun e=>by have:=(HO.out.lt _ e).2;omega
       have hblk:w1.heap[wr.heap.size]?=some (.cells #[.int .i64 x,.int .i64 y] 88 (0,0)):=by
        rw [hgrow1.block wr.heap.size (by simp only [World.size_alloc];omega) (fun e=>hne e.symm)]
        exact (((Below.refl _ _).alloc (Nat.le_refl _) _).block wr.heap.size (by simp)).trans (heap_alloc_new _ _)
       have HBLK:=Lib.hid hblk
       obtain ⟨hx1,hy1⟩:=two_cells hblk
       have hw1s:Hid (wr.heap.size+1<w1.heap.size):=by have:=hgrow1.size;simp only [World.size_alloc] at this;show _<_;omega
       clear hown1 hgrow1 hne hblk
       have hb3:Hid (w.heap.size≤(w1.alloc (.cells #[.int .i64 x,.int .i64 y] 88)).heap.size):=by have:=HB1.out.size;show _≤_;simp only [World.size_alloc];omega
       go_wp2_with (at_builtin;refine wpList_app _ rfl (.tmp 53) (.tmp 55) 48 rfl w.heap.size 88 i0 (.agg #[.int .i64 0,.int .i64 0]) 2 16 Try.underlying48 HI.out.1 HI.out.2.1 HI.out.2.2.1 HI.out.2.2.2 rfl (by decide) (.slice A1 (no+1) c1) (no+1) (ints (out ++ [F,T])) rfl (HO1.out.alloc _) (w1.heap.size+1) (some ⟨w1.heap.size,0,none⟩) 1 1 (ints [x,y]) (by simp [Act.eval]) (rd_new _ _ _ _ _ _ _ rfl (by omega) rfl rfl) (ones_ints _) (by unfold maxLen;omega) (by omega) hb3.out ?_)
       intro v2 w2 hown2 hgrow2
       obtain ⟨A2,c2,e2,_⟩:=own_form hown2
       subst e2
       have HN:Hid (AddW w w2 es f t (k+1) F T true (.slice A2 (no+1+1) c2) (no+1+1)) :=
        ⟨out ++ [F,T] ++ [x,y],HBH.out,ow_len (ow_len HOL.out F T) x y,by rw [ints_app];exact hown2,(HB1.out.alloc HB1.out.size _).grown hgrow2 hb3.out (fun g hg=>(HO1.out.lt g hg).1)⟩
       have hnk:Hid (no+1+1≤k+1+1):=by
        have h1:=HBH.out.len
        have h2:=ow_len (ow_len HOL.out F T) x y
        simp at h1 h2
        show _≤_
        omega
       clear hown2 hgrow2
       go_wp2_with fail
       go_roundw
       case rel=>exact ⟨k+1,no+1+1,F,T,true,by omega,hnk.out,by go_num,rfl,rfl,rfl,⟨_,_,rfl⟩,HN⟩
       case measure=>simp [intOf];omega
      ·have t2:decide (T<x)=false:=decide_eq_false h2
       have HME:=Lib.hid (HD.out.meets HOk.out hl1 (by rw [hy.out];exact h1) (by rw [hx.out];exact h2))
       rw [hx.out,hy.out] at HME
       have HN:Hid (AddW w (wr.alloc (.cells #[.int .i64 x,.int .i64 y] 88)) es f t (k+1) (min F x) (max T y) false (.slice Ao no co) no):=⟨out,HME.out,HOL.out,HOa.out,HBa.out⟩
       go_wp2_with fail
       go_roundw
       case rel=>exact ⟨k+1,no,min F x,max T y,false,by omega,by omega,by go_num,rfl,rfl,rfl,⟨_,_,rfl⟩,HN⟩
       case measure=>simp [intOf];omega
  ·have hlti:¬ (k:Int)<(n:Int):=by omega
   obtain rfl:k=n:=by omega
   have HFIN:Hid (∀ (out2:List Int) (W:World) (Ax:Option Addr) (nx cx:Nat),AddI es f t k F T true out2→out2.length=nx * 2→W.ownsRow w.heap.size 88 2 (.slice Ax nx cx) nx (ints out2)→Below w.heap.size w W→(∃ v,RefIn (W.setCell ⟨p,o,none⟩ (.slice Ax nx cx)) p o Tt (cur.setIfInBounds o v) (turnF es f t true))∧w.grownBy (W.setCell ⟨p,o,none⟩ (.slice Ax nx cx)) (some p)):=fun out2 W Ax nx cx hI hl hO hB=>by
    have HE:=AddI.eq HOk.out cf.1 hft ct.2 k hn.out hI
    have hhp:W.heap[p]?=some (.cells cur Tt (0,0)):=(hB.block p hpz).trans HHP.out
    have HG:Hid (W.grownBy (W.setCell ⟨p,o,none⟩ (.slice Ax nx cx)) (some p)):=grown_of (Below.refl _ _) p o _
    have hk2:=hO.kept HG.out (by
     by_cases hb:(Value.slice Ax nx cx).ownBlock=none
     ·exact .inl hb
     ·exact .inr fun e=>by have:=(hO.lt p e).1;omega)
    obtain ⟨_,_,e,hnc2,_,_,hrd2⟩:=own_form hk2
    simp only [Value.slice.injEq] at e
    obtain ⟨rfl,_,rfl⟩:=e
    exact ⟨⟨_,ok_turnF es f t true HOk.out cf.1 hft ct.2,Ax,nx,cx,by rw [← HE];exact hl,⟨set_slot hhp o _,slot_set HCU.out⟩,hnc2,by rw [← HE];exact hrd2,own_away hO hpz⟩,grown_of hB p o _⟩
   have hhp:wr.heap[p]?=some (.cells cur Tt (0,0)):=(HB.out.block p hpz).trans HHP.out
   have hfz:wr.frozen? ⟨p,o,none⟩=false:=free_slot hhp
   have HHP2:=Lib.hid hhp
   clear hhp
   cases d with
   | true =>
     have HE:=Lib.hid (HFIN.out out wr Ao no co HD.out HOL.out HO.out HB.out)
     go_wp2_with fail
     go_end0
     exact ⟨rfl,HE.out⟩
   | false =>
     have HON:=Lib.hid (HD.out.out_now (fun i h1 h2=>by have:=hn.out;omega))
     have hb3:Hid (w.heap.size≤(wr.alloc (.cells #[.int .i64 F,.int .i64 T] 88)).heap.size):=by have:=HB.out.size;show _≤_;simp only [World.size_alloc];omega
     have hno':no≤2199023255553:=by omega
     go_wp2_with (at_builtin;refine wpList_app _ rfl (.tmp 67) (.tmp 71) 48 rfl w.heap.size 88 i0 (.agg #[.int .i64 0,.int .i64 0]) 2 16 Try.underlying48 HI.out.1 HI.out.2.1 HI.out.2.2.1 HI.out.2.2.2 rfl (by decide) (.slice Ao no co) no (ints out) rfl (HO.out.alloc _) (wr.heap.size+1) (some ⟨wr.heap.size,0,none⟩) 1 1 (ints [F,T]) (by simp [Act.eval]) (rd_new _ _ _ _ _ _ _ rfl (by omega) rfl rfl) (ones_ints _) (by unfold maxLen;omega) (by omega) hb3.out ?_)
     intro v1 w1 hown1 hgrow1
     obtain ⟨A1,c1,e1,_⟩:=own_form hown1
     subst e1
     have HB1:Hid (Below w.heap.size w w1):=(HB.out.alloc HB.out.size _).grown hgrow1 hb3.out (fun g hg=>(HO.out.lt g hg).1)
     have HE:=Lib.hid (HFIN.out (out ++ [F,T]) w1 A1 (no+1) c1 HON.out (ow_len HOL.out F T) (by rw [ints_app];exact hown1) HB1.out)
     have hcell1:w1.cell? ⟨p,o,none⟩=some (.slice A k c):=by rw [HB1.out.cell (p:=⟨p,o,none⟩) hpz];exact cell_slot HHP.out HCU.out
     have hfz1:w1.frozen? ⟨p,o,none⟩=false:=by rw [HB1.out.frozen (p:=⟨p,o,none⟩) hpz];exact free_slot HHP.out
     clear hown1 hgrow1
     go_wp2_with fail
     go_end0
     exact ⟨rfl,HE.out⟩
theorem radd_any (es:List Int) (p o:Nat) (Tt:TypeId) (cur:Array Value) (f t:Int) (w:World) (h:RefIn w p o Tt cur es) (hm:(es.length+2) * 32≤140737488355328) :
  Calls Try.prog 61 #[.pointer (some ⟨p,o,none⟩),.int .i64 f,.int .i64 t] w fun e w'=>e=.returned (.tuple #[])∧(∃ v,RefIn w' p o Tt (cur.setIfInBounds o v) (turn es f t true))∧w.grownBy w' (some p):=by
 unfold turn
 by_cases hft:clamp t≤clamp f
 ·rw [if_pos hft]
  have W1:=Lib.hid (fun W=>rwithin_any f W)
  have W2:=Lib.hid (fun W=>rwithin_any t W)
  obtain ⟨f',hf⟩:∃ x,Hid (clamp f=x):=⟨_,rfl⟩
  obtain ⟨t',ht⟩:∃ x,Hid (clamp t=x):=⟨_,rfl⟩
  rw [hf.out] at W1 hft
  rw [ht.out] at W2 hft
  have HH:=Lib.hid h
  clear h
  go_enter Try.func61,Try.ntmps61
  go_wp2_with fail
  refine (W1.out _).mono ?_;rintro e w' ⟨rfl,rfl⟩
  go_wp2_with fail
  refine (W2.out _).mono ?_;rintro e w' ⟨rfl,rfl⟩
  go_wp2_with fail
  have HE:Hid ((∃ v,RefIn w p o Tt (cur.setIfInBounds o v) es)∧w.grownBy w (some p)):=⟨HH.out.same,⟨rfl,rfl,rfl,Nat.le_refl _,fun _ _ _=>rfl⟩⟩
  first | (go_end0;exact ⟨rfl,HE.out⟩) | exact bodyPost_ret (v:=.tuple #[]) (by simp [results,Try.results61,go_sem]) rfl ⟨rfl,HE.out⟩
 ·rw [if_neg hft]
  exact radd_do es p o Tt cur f t w h hm (by omega)
end Go.Proofs.Ytoahkffdoaphlaa.Sp.Ref
