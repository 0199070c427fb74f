/- Joined texts. Conditions: as each theorem lists them. -/
import Derived.Test.YtccljifichaieaaDoorJRt
import Derived.Outline
import Derived.Deep.RegionHeld3
import Derived.Test.YtccljifichaieaaDoorJ4c
set_option linter.unusedSimpArgs false
set_option linter.unusedVariables false
set_option maxRecDepth 100000
set_option maxHeartbeats 8000000
namespace Go.Proofs.YtccljifichaieaaDoor.Rv
open Go Go.RowKit
/-- data's refusals: no number, a length beyond MaxData, one beyond what is left. -/
theorem rdata_short (bs:List Nat) (B:Nat) (A:Option Addr) (cap:Nat) (w:World) (hx:Rd w B A bs.length (bv bs)) (hB:B≤w.heap.size) (hb:∀ c ∈ bs,c<256) (hn:bs.length≤cap) (hm:bs.length≤140737488355328) (hd:dec bs=none) :
  Calls Tryd.prog 81 #[.slice A bs.length cap] w fun e w'=>e=.returned (.tuple #[.slice none 0 0,.slice none 0 0,.int .i64 3])∧Below w.heap.size w w':=by
 have HT:=Lib.hid (rtake_any bs B A cap w hx hB hb hn hm)
 have hd:=Lib.hid hd
 clear hx hB hb hn hm
 go_enter Tryd.func81,Tryd.ntmps81
 go_wp2_with fail
 refine HT.out.mono ?_
 rintro e w' (⟨_,rfl,h2⟩ | ⟨v,W,v',h1,_⟩)
 ·have h2:=Lib.hid h2
  go_wp2
  go_ret3
  exact ⟨rfl,h2.out⟩
 ·rw [hd.out] at h1;cases h1
theorem rdata_form (bs:List Nat) (B:Nat) (A:Option Addr) (cap:Nat) (w:World) (hx:Rd w B A bs.length (bv bs)) (hB:B≤w.heap.size) (hb:∀ c ∈ bs,c<256) (hn:bs.length≤cap) (hm:bs.length≤140737488355328) (v W:Nat) (hd:dec bs=some (v,W)) (hv:120<v) :
  Calls Tryd.prog 81 #[.slice A bs.length cap] w fun e w'=>e=.returned (.tuple #[.slice none 0 0,.slice none 0 0,.int .i64 2])∧Below w.heap.size w w':=by
 have HT:=Lib.hid (rtake_any bs B A cap w hx hB hb hn hm)
 have hd:=Lib.hid hd
 have hv':(120:Int)<(v:Int):=by omega
 clear hx hB hb hn hm hv
 go_enter Tryd.func81,Tryd.ntmps81
 go_wp2_with fail
 refine HT.out.mono ?_
 rintro e w' (⟨h1,_⟩ | ⟨v1,W1,v',h1,rfl,_,h2⟩)
 ·rw [hd.out] at h1;cases h1
 ·rw [hd.out] at h1
  cases h1
  have h2:=Lib.hid h2
  go_wp2
  go_ret3
  exact ⟨rfl,h2.out⟩
theorem rdata_less (bs:List Nat) (B:Nat) (A:Option Addr) (cap:Nat) (w:World) (hx:Rd w B A bs.length (bv bs)) (hB:B≤w.heap.size) (hb:∀ c ∈ bs,c<256) (hn:bs.length≤cap) (hm:bs.length≤140737488355328) (v W:Nat) (hd:dec bs=some (v,W)) (hv:v≤120) (hl:bs.length - W<v) :
  Calls Tryd.prog 81 #[.slice A bs.length cap] w fun e w'=>e=.returned (.tuple #[.slice none 0 0,.slice none 0 0,.int .i64 3])∧Below w.heap.size w w':=by
 have HT:=Lib.hid (rtake_any bs B A cap w hx hB hb hn hm)
 have hd:=Lib.hid hd
 obtain ⟨k,hk⟩:∃ k,bs.length - W=k:=⟨_,rfl⟩
 rw [hk] at hl
 have hk:=Lib.hid hk
 have hv':¬ (120:Int)<(v:Int):=by omega
 have hl':(k:Int)<(v:Int):=by omega
 clear hx hB hb hn hm hv hl
 go_enter Tryd.func81,Tryd.ntmps81
 go_wp2_with fail
 refine HT.out.mono ?_
 rintro e w' (⟨h1,_⟩ | ⟨v1,W1,v',h1,rfl,h3,h2⟩)
 ·rw [hd.out] at h1;cases h1
 ·rw [hd.out] at h1
  cases h1
  rw [hk.out] at h3
  obtain ⟨A',c',rfl,_,_,_,_⟩:=own_form h3
  have h2:=Lib.hid h2
  clear h3
  go_wp2
  go_ret3
  exact ⟨rfl,h2.out⟩
/-- It reads as these bytes, and its block is one of bytes. -/
def RdT (w:World) (B:Nat) (A:Option Addr) (n:Nat) (bs:List Nat):Prop :=
 Rd w B A n (bv bs)∧∀ a,A=some a→∃ cur fr,w.heap[a.block]?=some (.cells cur 5 fr)
theorem own_ty {w:World} {base n c:Nat} {A:Option Addr} {xs:List Value} (h:w.ownsRow base 5 1 (.slice A n c) n xs):∀ a,A=some a→∃ cur fr,w.heap[a.block]?=some (.cells cur 5 fr):=fun a ha=>by
 rcases h.2 with ⟨e,_⟩ | ⟨g,cap,cur,e,_,hh,_⟩
 ·simp only [Value.slice.injEq] at e
  rw [ha] at e
  cases e.1
 ·simp only [Value.slice.injEq] at e
  rw [ha] at e
  have e1:=e.1
  simp only [Option.some.injEq] at e1
  subst e1
  exact ⟨cur,_,hh⟩
theorem RdT.of_own {w:World} {base n c:Nat} {A:Option Addr} {bs:List Nat} (h:w.ownsRow base 5 1 (.slice A n c) n (bv bs)):RdT w w.heap.size A n bs :=
 ⟨by have:=Rd.of_own h;rwa [Nat.mul_one] at this,own_ty h⟩
theorem ty_below {w w':World} {A:Option Addr} (h:∀ a,A=some a→∃ cur fr,w.heap[a.block]?=some (.cells cur 5 fr)) (hb:Below w.heap.size w w'):∀ a,A=some a→∃ cur fr,w'.heap[a.block]?=some (.cells cur 5 fr):=fun a ha=>by
 obtain ⟨cur,fr,hh⟩:=h a ha
 exact ⟨cur,fr,(hb.block _ (Array.getElem?_eq_some_iff.1 hh).1).trans hh⟩
theorem RdT.below {w w':World} {B n:Nat} {A:Option Addr} {bs:List Nat} (h:RdT w B A n bs) (hb:Below w.heap.size w w') (hB:B≤w.heap.size):RdT w' B A n bs:=⟨h.1.below hb hB,ty_below h.2 hb⟩
theorem RdT.more {w:World} {B B' n:Nat} {A:Option Addr} {bs:List Nat} (h:RdT w B A n bs) (hB:B≤B'):RdT w B' A n bs:=⟨h.1.more hB,h.2⟩
theorem RdT.keep {w w':World} {B n:Nat} {A:Option Addr} {bs:List Nat} {row:Option Nat} (h:RdT w B A n bs) (g:w.grownBy w' row) (hr:∀ k,row=some k→∃ cur fr e,w.heap[k]?=some (.cells cur e fr)∧e≠5):RdT w' B A n bs:=by
 have key:∀ a,A=some a→w'.heap[a.block]?=w.heap[a.block]?:=fun a ha=>by
  obtain ⟨cur,fr,hh⟩:=h.2 a ha
  refine g.block _ (Array.getElem?_eq_some_iff.1 hh).1 (fun e=>?_)
  obtain ⟨cur2,fr2,e2,hh2,hne⟩:=hr _ e.symm
  rw [hh] at hh2
  simp only [Option.some.injEq,Obj.cells.injEq] at hh2
  exact hne hh2.2.1.symm
 refine ⟨⟨h.1.1,fun hn=>?_⟩,fun a ha=>?_⟩
 ·obtain ⟨b,off,e,hlt,hc⟩:=h.1.2 hn
  refine ⟨b,off,e,hlt,fun j u hu=>?_⟩
  rw [← hc j u hu]
  exact World.cell?_of_block (a:=⟨b,off+j,none⟩) (key ⟨b,off,none⟩ e)
 ·obtain ⟨cur,fr,hh⟩:=h.2 a ha
  exact ⟨cur,fr,(key a ha).trans hh⟩
theorem ty_tail {w:World} {A:Option Addr} (h:∀ a,A=some a→∃ cur fr,w.heap[a.block]?=some (.cells cur 5 fr)) (p:Nat):∀ a,A.map (·.add p)=some a→∃ cur fr,w.heap[a.block]?=some (.cells cur 5 fr):=fun a ha=>by
 cases A with
 | none=>cases ha
 | some b =>
   simp only [Option.map_some,Option.some.injEq] at ha
   subst ha
   have:(b.add p).block=b.block:=by obtain ⟨x,y,z⟩:=b;simp only [Addr.add];split <;> rfl
   rw [this]
   exact h b rfl
end Go.Proofs.YtccljifichaieaaDoor.Rv
