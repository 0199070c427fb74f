/- Joined texts. Conditions: as each theorem lists them. -/
import Derived.Test.YtccljifichaieaaDoorJUf
import Derived.Test.YtccljifichaieaaDoorJ4c
import Derived.BigQuiet
import Derived.Outline
import Derived.BigGuard
import Derived.Deep.DeepCutAuto
import Derived.Deep.CutBlock
import Derived.Deep.RegionHeld3
set_option linter.unusedSimpArgs false
set_option linter.unusedVariables false
set_option maxRecDepth 100000
set_option maxHeartbeats 8000000
namespace Go.Proofs.YtccljifichaieaaDoor.Rv
open Go Go.RowKit
/-- A frame in its variable, its bytes and spans in rows of their own; the result's cells; the argument's. -/
structure FrBk (w wx:World) (raw:Array Value) (f:Fr) (A:Option Addr) (n c:Nat) (A2:Option Addr) (n2 c2:Nat):Prop where
 x:wx.heap[w.heap.size]?=some (.cells raw 48 (0,0))
 r:wx.heap[w.heap.size+1]?=some (.cells #[.int .i64 0,.int .i64 0,.int .i64 0,.int .i64 0,.int .i64 0,.int .i64 0,.bool false,.slice none 0 0,.slice none 0 0] 44 (0,0))
 b:wx.heap[w.heap.size+2]?=some (.cells #[.int .i64 f.k,.int .i64 f.id,.int .i64 f.off,.int .i64 f.a,.int .i64 f.b,.int .i64 f.note,.bool f.fin,.slice A n c,.slice A2 n2 c2] 44 (0,0))
 dl:f.data.length=n
 dn:n≤121
 sl:f.spans.length=n2 * 2
 sn:n2≤9
 od:wx.ownsRow (w.heap.size+3) 5 1 (.slice A n c) n (bv f.data)
 os:wx.ownsRow (w.heap.size+3) 67 2 (.slice A2 n2 c2) n2 (ints f.spans)
 lt:∀ z ∈ f.data,z<256
 bel:Below w.heap.size w wx
/-- What the bent frame tells. -/
def FrameQ (w:World) (e:Ending) (w':World):Prop:=∃ f v,e=.returned v∧f.data.length≤121∧f.spans.length≤18∧(∀ z ∈ f.data,z<256)∧FrOwn w' w.heap.size f v∧Below w.heap.size w w'
theorem FrBk.set {w wx:World} {raw:Array Value} {f:Fr} {A:Option Addr} {n c:Nat} {A2:Option Addr} {n2 c2:Nat} (h:FrBk w wx raw f A n c A2 n2 c2) (j:Nat) (v:Value) (f':Fr) (hd:f'.data=f.data) (hs:f'.spans=f.spans)
  (hc:(#[.int .i64 f.k,.int .i64 f.id,.int .i64 f.off,.int .i64 f.a,.int .i64 f.b,.int .i64 f.note,.bool f.fin,.slice A n c,.slice A2 n2 c2]:Array Value).setIfInBounds j v=#[.int .i64 f'.k,.int .i64 f'.id,.int .i64 f'.off,.int .i64 f'.a,.int .i64 f'.b,.int .i64 f'.note,.bool f'.fin,.slice A n c,.slice A2 n2 c2]) :
  FrBk w (wx.setCell ⟨w.heap.size+2,j,none⟩ v) raw f' A n c A2 n2 c2:=by
 have hg:=grown_set (w:=wx) (p:=w.heap.size+2) (o:=j) v
 refine ⟨?_,?_,?_,by rw [hd];exact h.dl,h.dn,by rw [hs];exact h.sl,h.sn,by rw [hd];exact own_put9 h.od hg h.b (by decide),by rw [hs];exact own_put9 h.os hg h.b (by decide),by rw [hd];exact h.lt,h.bel.trans (grown_below hg h.bel.size (by omega))⟩
 ·rw [heap_setCell_other _ _ _ _ (by show w.heap.size≠w.heap.size+2;omega)];exact h.x
 ·rw [heap_setCell_other _ _ _ _ (by show w.heap.size+1≠w.heap.size+2;omega)];exact h.r
 ·rw [heap_setCell_same _ _ j _ _ v h.b,hc]
theorem FrBk.below {w wx w2:World} {raw:Array Value} {f:Fr} {A:Option Addr} {n c:Nat} {A2:Option Addr} {n2 c2:Nat} (h:FrBk w wx raw f A n c A2 n2 c2) (hb:Below wx.heap.size wx w2):FrBk w w2 raw f A n c A2 n2 c2 :=
 ⟨(hb.block _ (Array.getElem?_eq_some_iff.1 h.x).1).trans h.x,(hb.block _ (Array.getElem?_eq_some_iff.1 h.r).1).trans h.r,(hb.block _ (Array.getElem?_eq_some_iff.1 h.b).1).trans h.b,h.dl,h.dn,h.sl,h.sn,own_below h.od hb,own_below h.os hb,h.lt,h.bel.trans (hb.mono h.bel.size)⟩
theorem FrBk.size {w wx:World} {raw:Array Value} {f:Fr} {A:Option Addr} {n c:Nat} {A2:Option Addr} {n2 c2:Nat} (h:FrBk w wx raw f A n c A2 n2 c2):w.heap.size+3≤wx.heap.size:=(Array.getElem?_eq_some_iff.1 h.b).1
/-- New bytes in a row of their own. -/
theorem FrBk.data {w wx:World} {raw:Array Value} {f:Fr} {A:Option Addr} {n c:Nat} {A2:Option Addr} {n2 c2:Nat} (h:FrBk w wx raw f A n c A2 n2 c2) {A1:Option Addr} {n1 c1:Nat} {d:List Nat} (ho:wx.ownsRow (w.heap.size+3) 5 1 (.slice A1 n1 c1) n1 (bv d)) (hl:d.length=n1) (hn:n1≤121) (hlt:∀ z ∈ d,z<256) :
  FrBk w (wx.setCell ⟨w.heap.size+2,7,none⟩ (.slice A1 n1 c1)) raw { f with data:=d } A1 n1 c1 A2 n2 c2:=by
 have hg:=grown_set (w:=wx) (p:=w.heap.size+2) (o:=7) (.slice A1 n1 c1)
 refine ⟨?_,?_,?_,hl,hn,h.sl,h.sn,own_put9 ho hg h.b (by decide),own_put9 h.os hg h.b (by decide),hlt,h.bel.trans (grown_below hg h.bel.size (by omega))⟩
 ·rw [heap_setCell_other _ _ _ _ (by show w.heap.size≠w.heap.size+2;omega)];exact h.x
 ·rw [heap_setCell_other _ _ _ _ (by show w.heap.size+1≠w.heap.size+2;omega)];exact h.r
 ·exact heap_setCell_same _ _ 7 _ _ _ h.b
theorem FrBk.spans {w wx:World} {raw:Array Value} {f:Fr} {A:Option Addr} {n c:Nat} {A2:Option Addr} {n2 c2:Nat} (h:FrBk w wx raw f A n c A2 n2 c2) {A1:Option Addr} {n1 c1:Nat} {es:List Int} (ho:wx.ownsRow (w.heap.size+3) 67 2 (.slice A1 n1 c1) n1 (ints es)) (hl:es.length=n1 * 2) (hn:n1≤9) :
  FrBk w (wx.setCell ⟨w.heap.size+2,8,none⟩ (.slice A1 n1 c1)) raw { f with spans:=es } A n c A1 n1 c1:=by
 have hg:=grown_set (w:=wx) (p:=w.heap.size+2) (o:=8) (.slice A1 n1 c1)
 refine ⟨?_,?_,?_,h.dl,h.dn,hl,hn,own_put9 h.od hg h.b (by decide),own_put9 ho hg h.b (by decide),h.lt,h.bel.trans (grown_below hg h.bel.size (by omega))⟩
 ·rw [heap_setCell_other _ _ _ _ (by show w.heap.size≠w.heap.size+2;omega)];exact h.x
 ·rw [heap_setCell_other _ _ _ _ (by show w.heap.size+1≠w.heap.size+2;omega)];exact h.r
 ·exact heap_setCell_same _ _ 8 _ _ _ h.b
/-- A row of the frame's has grown, or moved: all else stays. -/
theorem FrBk.grownD {w wx w2:World} {raw:Array Value} {f:Fr} {A:Option Addr} {n c:Nat} {A2:Option Addr} {n2 c2:Nat} (h:FrBk w wx raw f A n c A2 n2 c2) (hg:wx.grownBy w2 (Value.slice A n c).ownBlock) :
  w2.heap[w.heap.size]?=some (.cells raw 48 (0,0))∧w2.heap[w.heap.size+1]?=wx.heap[w.heap.size+1]?∧w2.heap[w.heap.size+2]?=wx.heap[w.heap.size+2]?∧w2.ownsRow (w.heap.size+3) 67 2 (.slice A2 n2 c2) n2 (ints f.spans)∧Below w.heap.size w w2:=by
 have hne:∀ k,k<w.heap.size+3→(Value.slice A n c).ownBlock≠some k:=fun k hk e=>by have:=(h.od.lt k e).1;omega
 have hb:∀ k,k<w.heap.size+3→w2.heap[k]?=wx.heap[k]?:=fun k hk=>hg.block k (Nat.lt_of_lt_of_le hk h.size) (fun e=>hne k hk e.symm)
 refine ⟨(hb _ (by omega)).trans h.x,hb _ (by omega),hb _ (by omega),?_,h.bel.grown hg h.bel.size (fun g hg=>by have:=(h.od.lt g hg).1;omega)⟩
 refine h.os.kept hg ?_
 rcases h.od.2 with ⟨e,_⟩ | ⟨b2,cap2,cur2,e,_,hh,_⟩
 ·rw [e];cases (Value.slice A2 n2 c2).ownBlock <;> simp [Value.ownBlock]
 ·have:=own_other h.os hh (by decide)
  rw [e]
  first | exact .inr (Ne.symm this) | exact .inr this | exact .inr (fun e=>this e) | exact .inr (fun e=>this e.symm)
theorem FrBk.grownS {w wx w2:World} {raw:Array Value} {f:Fr} {A:Option Addr} {n c:Nat} {A2:Option Addr} {n2 c2:Nat} (h:FrBk w wx raw f A n c A2 n2 c2) (hg:wx.grownBy w2 (Value.slice A2 n2 c2).ownBlock) :
  w2.heap[w.heap.size]?=some (.cells raw 48 (0,0))∧w2.heap[w.heap.size+1]?=wx.heap[w.heap.size+1]?∧w2.heap[w.heap.size+2]?=wx.heap[w.heap.size+2]?∧w2.ownsRow (w.heap.size+3) 5 1 (.slice A n c) n (bv f.data)∧Below w.heap.size w w2:=by
 have hne:∀ k,k<w.heap.size+3→(Value.slice A2 n2 c2).ownBlock≠some k:=fun k hk e=>by have:=(h.os.lt k e).1;omega
 have hb:∀ k,k<w.heap.size+3→w2.heap[k]?=wx.heap[k]?:=fun k hk=>hg.block k (Nat.lt_of_lt_of_le hk h.size) (fun e=>hne k hk e.symm)
 refine ⟨(hb _ (by omega)).trans h.x,hb _ (by omega),hb _ (by omega),?_,h.bel.grown hg h.bel.size (fun g hg=>by have:=(h.os.lt g hg).1;omega)⟩
 refine h.od.kept hg ?_
 rcases h.os.2 with ⟨e,_⟩ | ⟨b2,cap2,cur2,e,_,hh,_⟩
 ·rw [e];cases (Value.slice A n c).ownBlock <;> simp [Value.ownBlock]
 ·have:=own_other h.od hh (by decide)
  rw [e]
  first | exact .inr (Ne.symm this) | exact .inr this | exact .inr (fun e=>this e) | exact .inr (fun e=>this e.symm)
theorem FrBk.drewN {w wx:World} {raw:Array Value} {f:Fr} {A:Option Addr} {n c:Nat} {A2:Option Addr} {n2 c2:Nat} (h:FrBk w wx raw f A n c A2 n2 c2) (m:Nat):FrBk w (wx.drewN m) raw f A n c A2 n2 c2 :=
 ⟨h.x,h.r,h.b,h.dl,h.dn,h.sl,h.sn,h.od,h.os,h.lt,⟨h.bel.os,h.bel.tape,h.bel.output,h.bel.size,h.bel.block⟩⟩
theorem FrBk.drew {w wx:World} {raw:Array Value} {f:Fr} {A:Option Addr} {n c:Nat} {A2:Option Addr} {n2 c2:Nat} (h:FrBk w wx raw f A n c A2 n2 c2):FrBk w wx.drew raw f A n c A2 n2 c2 :=
 ⟨h.x,h.r,h.b,h.dl,h.dn,h.sl,h.sn,h.od,h.os,h.lt,⟨h.bel.os,h.bel.tape,h.bel.output,h.bel.size,h.bel.block⟩⟩
/-- The bytes' row has grown by one. -/
theorem FrBk.push {w wx w2:World} {raw:Array Value} {f:Fr} {A:Option Addr} {n c:Nat} {A2:Option Addr} {n2 c2:Nat} {A1:Option Addr} {n1 c1:Nat} {d:List Nat} (h:FrBk w wx raw f A n c A2 n2 c2) (hg:wx.grownBy w2 (Value.slice A n c).ownBlock) (ho:w2.ownsRow (w.heap.size+3) 5 1 (.slice A1 n1 c1) n1 (bv d)) (hl:d.length=n1) (hn:n1≤121) (hlt:∀ z ∈ d,z<256) :
  FrBk w (w2.setCell ⟨w.heap.size+2,7,none⟩ (.slice A1 n1 c1)) raw { f with data:=d } A1 n1 c1 A2 n2 c2:=by
 obtain ⟨g1,g2,g3,g4,g5⟩:=h.grownD hg
 have hgs:=grown_set (w:=w2) (p:=w.heap.size+2) (o:=7) (.slice A1 n1 c1)
 have hb:=g3.trans h.b
 refine ⟨?_,?_,?_,hl,hn,h.sl,h.sn,own_put9 ho hgs hb (by decide),own_put9 g4 hgs hb (by decide),hlt,g5.trans (grown_below hgs g5.size (by omega))⟩
 ·rw [heap_setCell_other _ _ _ _ (by show w.heap.size≠w.heap.size+2;omega)];exact g1
 ·rw [heap_setCell_other _ _ _ _ (by show w.heap.size+1≠w.heap.size+2;omega)];exact g2.trans h.r
 ·exact heap_setCell_same _ _ 7 _ _ _ hb
theorem FrBk.pushS {w wx w2:World} {raw:Array Value} {f:Fr} {A:Option Addr} {n c:Nat} {A2:Option Addr} {n2 c2:Nat} {A1:Option Addr} {n1 c1:Nat} {es:List Int} (h:FrBk w wx raw f A n c A2 n2 c2) (hg:wx.grownBy w2 (Value.slice A2 n2 c2).ownBlock) (ho:w2.ownsRow (w.heap.size+3) 67 2 (.slice A1 n1 c1) n1 (ints es)) (hl:es.length=n1 * 2) (hn:n1≤9) :
  FrBk w (w2.setCell ⟨w.heap.size+2,8,none⟩ (.slice A1 n1 c1)) raw { f with spans:=es } A n c A1 n1 c1:=by
 obtain ⟨g1,g2,g3,g4,g5⟩:=h.grownS hg
 have hgs:=grown_set (w:=w2) (p:=w.heap.size+2) (o:=8) (.slice A1 n1 c1)
 have hb:=g3.trans h.b
 refine ⟨?_,?_,?_,h.dl,h.dn,hl,hn,own_put9 g4 hgs hb (by decide),own_put9 ho hgs hb (by decide),h.lt,g5.trans (grown_below hgs g5.size (by omega))⟩
 ·rw [heap_setCell_other _ _ _ _ (by show w.heap.size≠w.heap.size+2;omega)];exact g1
 ·rw [heap_setCell_other _ _ _ _ (by show w.heap.size+1≠w.heap.size+2;omega)];exact g2.trans h.r
 ·exact heap_setCell_same _ _ 8 _ _ _ hb
/-- A span's number, written. -/
theorem FrBk.span {w wx:World} {raw:Array Value} {f:Fr} {A:Option Addr} {n c:Nat} {A2:Option Addr} {n2 c2:Nat} (h:FrBk w wx raw f A n c A2 n2 c2) (h0:0<n2):∃ g,A2=some ⟨g,0,none⟩∧w.heap.size+3≤g∧∀ i,i<n2 * 2→wx.cell? ⟨g,i,none⟩=some (.int .i64 (f.spans.getD i 0))∧wx.frozen? ⟨g,i,none⟩=false∧∀ v:Int,FrBk w (wx.setCell ⟨g,i,none⟩ (.int .i64 v)) raw { f with spans:=f.spans.set i v } A n c A2 n2 c2:=by
 rcases h.os.2 with ⟨e,_⟩ | ⟨g,cap,cur,e,hbg,hh,hnc,hcm,hk,ht⟩
 ·simp only [Value.slice.injEq] at e;omega
 ·simp only [Value.slice.injEq] at e
  obtain ⟨rfl,_,rfl⟩:=e
  refine ⟨g,rfl,hbg,fun i hi=>⟨?_,frozen_of_row _ _ i _ _ hh,fun v=>?_⟩⟩
  ·rw [cell_of_row _ _ i _ _ _ hh]
   have:=ints_get f.spans i (by rw [h.sl];exact hi)
   rw [← ht,List.getElem?_take,if_pos (by rw [← Nat.mul_comm] at *;omega)] at this
   simpa using this
  ·have hg:=grown_set (w:=wx) (p:=g) (o:=i) (.int .i64 v)
   refine ⟨?_,?_,?_,h.dl,h.dn,by simp [h.sl],h.sn,own_put9 h.od hg hh (by decide),⟨by simp [ints,h.sl],.inr ⟨g,c2,cur.setIfInBounds i (.int .i64 v),rfl,hbg,heap_setCell_same _ _ i _ _ _ hh,hnc,hcm,by rw [Array.size_setIfInBounds];exact hk,?_⟩⟩,h.lt,h.bel.trans (grown_below hg h.bel.size (by omega))⟩
   ·rw [heap_setCell_other _ _ _ _ (by show w.heap.size≠g;omega)];exact h.x
   ·rw [heap_setCell_other _ _ _ _ (by show w.heap.size+1≠g;omega)];exact h.r
   ·rw [heap_setCell_other _ _ _ _ (by show w.heap.size+2≠g;omega)];exact h.b
   ·rw [Array.toList_setIfInBounds,List.take_set,ht]
    simp [ints,List.map_set]
/-- The end: the frame goes to the result's cells. -/
theorem FrBk.fin {w wx:World} {raw:Array Value} {f:Fr} {A:Option Addr} {n c:Nat} {A2:Option Addr} {n2 c2:Nat} (h:FrBk w wx raw f A n c A2 n2 c2):FrameQ w (.returned (frA f A n c A2 n2 c2)) (put9 wx (w.heap.size+1) (.int .i64 f.k) (.int .i64 f.id) (.int .i64 f.off) (.int .i64 f.a) (.int .i64 f.b) (.int .i64 f.note) (.bool f.fin) (.slice A n c) (.slice A2 n2 c2)):=by
 have hg:=put9_grown wx (w.heap.size+1) (.int .i64 f.k) (.int .i64 f.id) (.int .i64 f.off) (.int .i64 f.a) (.int .i64 f.b) (.int .i64 f.note) (.bool f.fin) (.slice A n c) (.slice A2 n2 c2)
 exact ⟨f,_,rfl,by rw [h.dl];exact h.dn,by rw [h.sl];have:=h.sn;omega,h.lt,⟨A,n,c,A2,n2,c2,rfl,h.dl,h.sl,own_base (own_put9 h.od hg h.r (by decide)) (by omega),own_base (own_put9 h.os hg h.r (by decide)) (by omega)⟩,h.bel.trans (grown_below hg h.bel.size (by omega))⟩
def dataLen (w:World) (g:Nat):Nat:=match w.cell? ⟨g,7,none⟩ with
 | some (.slice _ n _)=>n
 | _=>0
theorem grow5 {w wx w2 wc:World} {raw:Array Value} {f:Fr} {A:Option Addr} {n c:Nat} {A2:Option Addr} {n2 c2:Nat} (h:FrBk w wx raw f A n c A2 n2 c2) (hg:wx.grownBy w2 (Value.slice A2 n2 c2).ownBlock) (hb:Below wc.heap.size wc wx) (hs:w.heap.size+3≤wc.heap.size):Below (w.heap.size+3) wc w2 :=
 (hb.mono hs).grown hg (Nat.le_trans hs hb.size) (fun g hg=>(h.os.lt g hg).1)
theorem wrapIn (n:Int):-9223372036854775808≤wrap64 n∧wrap64 n≤9223372036854775807:=by
 unfold wrap64;omega
theorem hframeB_any (k id off a b bend:Int) (fin:Bool) (A:Option Addr) (bs:List Nat) (c:Nat) (A2:Option Addr) (l:List Int) (c2:Nat) (w:World) (hid:-9223372036854775808≤id∧id≤9223372036854775807) (hoff:-9223372036854775808≤off∧off≤9223372036854775807)
  (ha:-9223372036854775808≤a∧a≤9223372036854775807) (hb:-9223372036854775808≤b∧b≤9223372036854775807)
  (hbs:Rd w w.heap.size A bs.length (bv bs)) (hbc:bs.length≤c) (hbm:bs.length≤140737488355328) (hblt:∀ x ∈ bs,x<256) (hl:Rd w w.heap.size A2 l.length (ints l)) (hlc:l.length≤c2) (hlm:l.length≤17592186044416) (hllt:∀ n ∈ l,-9223372036854775808≤n∧n≤9223372036854775807) :
  Calls Tryd.prog 20 #[.agg #[.int .i64 k,.int .i64 id,.int .i64 off,.int .i64 a,.int .i64 b,.int .i64 bend,.bool fin,.slice A bs.length c,.slice A2 l.length c2]] w (FrameQ w):=by
 have HP:=Lib.hid (fun W=>pick_any k 12 W (by decide) (by decide))
 have HID:=Lib.hid hid
 have HOFF:=Lib.hid hoff
 have HA:=Lib.hid ha
 have HB:=Lib.hid hb
 have hfew:∀ m:Nat,∀ W,Below w.heap.size w W→Calls Tryd.prog 13 #[.slice A bs.length c,.int .i64 (m:Int)] W fun e w'=>∃ v',e=.returned v'∧w'.ownsRow W.heap.size 5 1 v' (bs.take m).length (bv (bs.take m))∧Below W.heap.size W w':=fun m W hW=>few_any bs w.heap.size A c m W (hbs.below hW (Nat.le_refl _)) hW.size hbc hbm
 have HFEW:=Lib.hid hfew
 have HBLT:=Lib.hid hblt
 have HU:Hid (∀ W,Below w.heap.size w W→Calls Tryd.prog 41 #[.slice A2 l.length c2] W (RunsP W)):=fun W hW=>runs_any l w.heap.size A2 c2 W (hl.below hW (Nat.le_refl _)) hW.size hllt hlm hlc
 clear hid hoff ha hb hbs hbc hbm hblt hl hlc hlm hllt hfew
 have hk0:=Int.emod_nonneg k (show (12:Int)≠0 by decide)
 have hk1:=Int.emod_lt_of_pos k (show (0:Int)<12 by decide)
 obtain ⟨kk,hkk⟩:∃ x,k % 12=x:=⟨_,rfl⟩
 rw [hkk] at HP hk0 hk1
 clear hkk
 have HKR:=Lib.hid (And.intro hk0 hk1)
 go_enter Tryd.func20,Tryd.ntmps20
 go_wp2_with fail
 refine (HP.out _).mono ?_
 rintro e w' ⟨rfl,rfl⟩
 go_upto_block 0 with (fail)
 have hsz3:(((w.alloc (.cells #[.int .i64 k,.int .i64 id,.int .i64 off,.int .i64 a,.int .i64 b,.int .i64 bend,.bool fin,.slice A bs.length c,.slice A2 l.length c2] 48)).alloc (.cells #[.int .i64 0,.int .i64 0,.int .i64 0,.int .i64 0,.int .i64 0,.int .i64 0,.bool false,.slice none 0 0,.slice none 0 0] 44)).alloc (.cells #[.int .i64 (1+kk),.int .i64 0,.int .i64 0,.int .i64 0,.int .i64 0,.int .i64 0,.bool false,.slice none 0 0,.slice none 0 0] 44)).heap.size=w.heap.size+3:=by simp
 have hbel3:Below w.heap.size w (((w.alloc (.cells #[.int .i64 k,.int .i64 id,.int .i64 off,.int .i64 a,.int .i64 b,.int .i64 bend,.bool fin,.slice A bs.length c,.slice A2 l.length c2] 48)).alloc (.cells #[.int .i64 0,.int .i64 0,.int .i64 0,.int .i64 0,.int .i64 0,.int .i64 0,.bool false,.slice none 0 0,.slice none 0 0] 44)).alloc (.cells #[.int .i64 (1+kk),.int .i64 0,.int .i64 0,.int .i64 0,.int .i64 0,.int .i64 0,.bool false,.slice none 0 0,.slice none 0 0] 44)):=(((Below.refl _ _).alloc (Nat.le_refl _) _).alloc (by simp) _).alloc (by simp;omega) _
 have hx3:(((w.alloc (.cells #[.int .i64 k,.int .i64 id,.int .i64 off,.int .i64 a,.int .i64 b,.int .i64 bend,.bool fin,.slice A bs.length c,.slice A2 l.length c2] 48)).alloc (.cells #[.int .i64 0,.int .i64 0,.int .i64 0,.int .i64 0,.int .i64 0,.int .i64 0,.bool false,.slice none 0 0,.slice none 0 0] 44)).alloc (.cells #[.int .i64 (1+kk),.int .i64 0,.int .i64 0,.int .i64 0,.int .i64 0,.int .i64 0,.bool false,.slice none 0 0,.slice none 0 0] 44)).heap[w.heap.size]?=some (.cells #[.int .i64 k,.int .i64 id,.int .i64 off,.int .i64 a,.int .i64 b,.int .i64 bend,.bool fin,.slice A bs.length c,.slice A2 l.length c2] 48 (0,0)):=by
  rw [heap_alloc_old _ _ (by simp;omega),heap_alloc_old _ _ (by simp)];exact heap_alloc_new _ _
 have hr3:(((w.alloc (.cells #[.int .i64 k,.int .i64 id,.int .i64 off,.int .i64 a,.int .i64 b,.int .i64 bend,.bool fin,.slice A bs.length c,.slice A2 l.length c2] 48)).alloc (.cells #[.int .i64 0,.int .i64 0,.int .i64 0,.int .i64 0,.int .i64 0,.int .i64 0,.bool false,.slice none 0 0,.slice none 0 0] 44)).alloc (.cells #[.int .i64 (1+kk),.int .i64 0,.int .i64 0,.int .i64 0,.int .i64 0,.int .i64 0,.bool false,.slice none 0 0,.slice none 0 0] 44)).heap[w.heap.size+1]?=some (.cells #[.int .i64 0,.int .i64 0,.int .i64 0,.int .i64 0,.int .i64 0,.int .i64 0,.bool false,.slice none 0 0,.slice none 0 0] 44 (0,0)):=by
  rw [heap_alloc_old _ _ (by simp)]
  have:=heap_alloc_new (w.alloc (.cells #[.int .i64 k,.int .i64 id,.int .i64 off,.int .i64 a,.int .i64 b,.int .i64 bend,.bool fin,.slice A bs.length c,.slice A2 l.length c2] 48)) (.cells #[.int .i64 0,.int .i64 0,.int .i64 0,.int .i64 0,.int .i64 0,.int .i64 0,.bool false,.slice none 0 0,.slice none 0 0] 44)
  simpa using this
 have hf3:(((w.alloc (.cells #[.int .i64 k,.int .i64 id,.int .i64 off,.int .i64 a,.int .i64 b,.int .i64 bend,.bool fin,.slice A bs.length c,.slice A2 l.length c2] 48)).alloc (.cells #[.int .i64 0,.int .i64 0,.int .i64 0,.int .i64 0,.int .i64 0,.int .i64 0,.bool false,.slice none 0 0,.slice none 0 0] 44)).alloc (.cells #[.int .i64 (1+kk),.int .i64 0,.int .i64 0,.int .i64 0,.int .i64 0,.int .i64 0,.bool false,.slice none 0 0,.slice none 0 0] 44)).heap[w.heap.size+2]?=some (.cells #[.int .i64 (1+kk),.int .i64 0,.int .i64 0,.int .i64 0,.int .i64 0,.int .i64 0,.bool false,.slice none 0 0,.slice none 0 0] 44 (0,0)):=by
  have:=heap_alloc_new ((w.alloc (.cells #[.int .i64 k,.int .i64 id,.int .i64 off,.int .i64 a,.int .i64 b,.int .i64 bend,.bool fin,.slice A bs.length c,.slice A2 l.length c2] 48)).alloc (.cells #[.int .i64 0,.int .i64 0,.int .i64 0,.int .i64 0,.int .i64 0,.int .i64 0,.bool false,.slice none 0 0,.slice none 0 0] 44)) (.cells #[.int .i64 (1+kk),.int .i64 0,.int .i64 0,.int .i64 0,.int .i64 0,.int .i64 0,.bool false,.slice none 0 0,.slice none 0 0] 44)
  simpa using this
 obtain ⟨w3,hw3⟩:∃ w3,(((w.alloc (.cells #[.int .i64 k,.int .i64 id,.int .i64 off,.int .i64 a,.int .i64 b,.int .i64 bend,.bool fin,.slice A bs.length c,.slice A2 l.length c2] 48)).alloc (.cells #[.int .i64 0,.int .i64 0,.int .i64 0,.int .i64 0,.int .i64 0,.int .i64 0,.bool false,.slice none 0 0,.slice none 0 0] 44)).alloc (.cells #[.int .i64 (1+kk),.int .i64 0,.int .i64 0,.int .i64 0,.int .i64 0,.int .i64 0,.bool false,.slice none 0 0,.slice none 0 0] 44))=w3:=⟨_,rfl⟩
 rw [hw3] at hsz3 hbel3 hx3 hr3 hf3 ⊢
 rw [show w.heap.size+1+1=w.heap.size+2 from rfl]
 have HK0:Hid (FrBk w w3 #[.int .i64 k,.int .i64 id,.int .i64 off,.int .i64 a,.int .i64 b,.int .i64 bend,.bool fin,.slice A bs.length c,.slice A2 l.length c2] ⟨1+kk,0,0,0,0,0,false,[],[]⟩ none 0 0 none 0 0):=⟨hx3,hr3,hf3,rfl,by omega,rfl,by omega,own_nil _ _ _ _,own_nil _ _ _ _,fun z hz=>(by cases hz),hbel3⟩
 have HSZ:=Lib.hid hsz3
 clear hw3 hsz3 hbel3 hx3 hr3 hf3 hk0 hk1
 go_cut [11] (fun v wx=>∃ (f:Fr) (A1:Option Addr) (n1 c1:Nat) (A3:Option Addr) (n3 c3:Nat),n3≤8∧Hid (FrBk w wx #[.int .i64 k,.int .i64 id,.int .i64 off,.int .i64 a,.int .i64 b,.int .i64 bend,.bool fin,.slice A bs.length c,.slice A2 l.length c2] f A1 n1 c1 A3 n3 c3))
 case first =>
  obtain ⟨hk0,hk1⟩:=HKR.out
  have hkc:kk=0∨kk=1∨kk=2∨kk=3∨kk=4∨kk=5∨kk=6∨kk=7∨kk=8∨kk=9∨kk=10∨kk=11:=by omega
  clear hk0 hk1
  rcases hkc with hkv | hkv | hkv | hkv | hkv | hkv | hkv | hkv | hkv | hkv | hkv | hkv
  ·subst hkv
   as_aux_lemma =>
    go_wp2_with fail
    go_meet
    case rel=>exact ⟨_,none,0,0,none,0,0,by omega,HK0.out⟩
  ·subst hkv
   as_aux_lemma =>
    have x8:=cell_of_row _ _ 8 _ _ _ HK0.out.x
    go_wp2_with fail
    refine (HU.out _ HK0.out.bel).mono ?_
    rintro e w1 ⟨A1,m1,c1,es,rfl,hm1,hm8,hsp,ho1,hb1⟩
    have HK1:=Lib.hid (HK0.out.below hb1)
    have HO:=Lib.hid (own_base (base':=w.heap.size+3) ho1 HK0.out.size)
    have HSP:=Lib.hid hsp
    have c8:=cell_of_row _ _ 8 _ _ _ HK1.out.b
    have f8:=frozen_of_row _ _ 8 _ _ HK1.out.b
    clear ho1 hsp hb1
    go_wp2_with fail
    go_meet
    case rel=>exact ⟨_,none,0,0,A1,m1,c1,hm8,HK1.out.spans HO.out HSP.out.1 (by omega)⟩
  ·subst hkv
   as_aux_lemma =>
    have HMid:=Lib.hid (fun W=>hmay_any id W HID.out.1 HID.out.2)
    have Mid:=mayF_in id
    obtain ⟨id_,hmid⟩:∃ y,Hid (mayF id=y):=⟨_,rfl⟩
    rw [hmid.out] at HMid Mid
    obtain ⟨Mid1,Mid2⟩:=Mid
    have HKo:=Lib.hid (fun W=>pick_any off 1099511627776 W (by omega) (by omega))
    obtain ⟨off_,hko⟩:∃ y,Hid (off % 1099511627776=y):=⟨_,rfl⟩
    rw [hko.out] at HKo
    have x1:=cell_of_row _ _ 1 _ _ _ HK0.out.x
    have x2:=cell_of_row _ _ 2 _ _ _ HK0.out.x
    have x6:=cell_of_row _ _ 6 _ _ _ HK0.out.x
    have x7:=cell_of_row _ _ 7 _ _ _ HK0.out.x
    have gc1:=cell_of_row _ _ 1 _ _ _ HK0.out.b
    have gz1:=frozen_of_row _ _ 1 _ _ HK0.out.b
    have gc2:=cell_of_row _ _ 2 _ _ _ HK0.out.b
    have gz2:=frozen_of_row _ _ 2 _ _ HK0.out.b
    have gc6:=cell_of_row _ _ 6 _ _ _ HK0.out.b
    have gz6:=frozen_of_row _ _ 6 _ _ HK0.out.b
    have HK3:Hid (FrBk w (((w3.setCell ⟨w.heap.size+2,1,none⟩ (.int .i64 id_)).setCell ⟨w.heap.size+2,2,none⟩ (.int .i64 off_)).setCell ⟨w.heap.size+2,6,none⟩ (.bool fin)) #[.int .i64 k,.int .i64 id,.int .i64 off,.int .i64 a,.int .i64 b,.int .i64 bend,.bool fin,.slice A bs.length c,.slice A2 l.length c2] ⟨3,id_,off_,0,0,0,fin,[],[]⟩ none 0 0 none 0 0) :=
     FrBk.set (FrBk.set (FrBk.set HK0.out 1 _ ⟨3,id_,0,0,0,0,false,[],[]⟩ rfl rfl rfl) 2 _ ⟨3,id_,off_,0,0,0,false,[],[]⟩ rfl rfl rfl) 6 _ ⟨3,id_,off_,0,0,0,fin,[],[]⟩ rfl rfl rfl
    have HF:=Lib.hid (HFEW.out 120 _ HK3.out.bel)
    obtain ⟨d,hd⟩:∃ d,Hid (bs.take 120=d):=⟨_,rfl⟩
    have hd120:d.length≤120:=by rw [← hd.out,List.length_take];omega
    have HDLT:Hid (∀ z ∈ d,z<256):=fun z hz=>by rw [← hd.out] at hz;exact HBLT.out z (List.mem_of_mem_take hz)
    rw [hd.out] at HF
    rw [show ((120:Nat):Int)=120 from rfl] at HF
    go_wp2_with fail
    refine (HMid.out _).mono ?_
    rintro e w' ⟨rfl,rfl⟩
    go_wp2_with fail
    refine (HKo.out _).mono ?_
    rintro e w' ⟨rfl,rfl⟩
    go_wp2_with fail
    refine HF.out.mono ?_
    rintro e w1 ⟨v1,rfl,ho1,hb1⟩
    obtain ⟨A1,c1,e1,_⟩:=own_form ho1
    subst e1
    have HK1:=Lib.hid (HK3.out.below hb1)
    have HO:=Lib.hid (own_base (base':=w.heap.size+3) ho1 HK3.out.size)
    have c7:=cell_of_row _ _ 7 _ _ _ HK1.out.b
    have f7:=frozen_of_row _ _ 7 _ _ HK1.out.b
    clear ho1 hb1
    go_wp2_with fail
    go_meet
    case rel=>exact ⟨_,A1,d.length,c1,none,0,0,by omega,HK1.out.data HO.out rfl (by omega) HDLT.out⟩
  ·subst hkv
   as_aux_lemma =>
    have HMid:=Lib.hid (fun W=>hmay_any id W HID.out.1 HID.out.2)
    have Mid:=mayF_in id
    obtain ⟨id_,hmid⟩:∃ y,Hid (mayF id=y):=⟨_,rfl⟩
    rw [hmid.out] at HMid Mid
    obtain ⟨Mid1,Mid2⟩:=Mid
    have HMa:=Lib.hid (fun W=>hmay_any a W HA.out.1 HA.out.2)
    have Ma:=mayF_in a
    obtain ⟨a_,hma⟩:∃ y,Hid (mayF a=y):=⟨_,rfl⟩
    rw [hma.out] at HMa Ma
    obtain ⟨Ma1,Ma2⟩:=Ma
    have HMoff:=Lib.hid (fun W=>hmay_any off W HOFF.out.1 HOFF.out.2)
    have Moff:=mayF_in off
    obtain ⟨off_,hmoff⟩:∃ y,Hid (mayF off=y):=⟨_,rfl⟩
    rw [hmoff.out] at HMoff Moff
    obtain ⟨Moff1,Moff2⟩:=Moff
    have HKb:=Lib.hid (fun W=>pick_any b (off_+1) W (by omega) (by omega))
    obtain ⟨b_,hkb⟩:∃ y,Hid (b % (off_+1)=y):=⟨_,rfl⟩
    rw [hkb.out] at HKb
    have x1:=cell_of_row _ _ 1 _ _ _ HK0.out.x
    have x3:=cell_of_row _ _ 3 _ _ _ HK0.out.x
    have x2:=cell_of_row _ _ 2 _ _ _ HK0.out.x
    have x4:=cell_of_row _ _ 4 _ _ _ HK0.out.x
    have gc1:=cell_of_row _ _ 1 _ _ _ HK0.out.b
    have gz1:=frozen_of_row _ _ 1 _ _ HK0.out.b
    have gc3:=cell_of_row _ _ 3 _ _ _ HK0.out.b
    have gz3:=frozen_of_row _ _ 3 _ _ HK0.out.b
    have gc2:=cell_of_row _ _ 2 _ _ _ HK0.out.b
    have gz2:=frozen_of_row _ _ 2 _ _ HK0.out.b
    have gc4:=cell_of_row _ _ 4 _ _ _ HK0.out.b
    have gz4:=frozen_of_row _ _ 4 _ _ HK0.out.b
    go_wp2_with fail
    refine (HMid.out _).mono ?_
    rintro e w' ⟨rfl,rfl⟩
    go_wp2_with fail
    refine (HMa.out _).mono ?_
    rintro e w' ⟨rfl,rfl⟩
    go_wp2_with fail
    refine (HMoff.out _).mono ?_
    rintro e w' ⟨rfl,rfl⟩
    go_wp2_with fail
    refine (HKb.out _).mono ?_
    rintro e w' ⟨rfl,rfl⟩
    go_wp2_with fail
    go_meet
    case rel=>exact ⟨_,none,0,0,none,0,0,by omega,(FrBk.set ((FrBk.set ((FrBk.set ((FrBk.set (HK0.out) 1 _ ⟨4,id_,0,0,0,0,false,[],[]⟩ rfl rfl rfl)) 3 _ ⟨4,id_,0,a_,0,0,false,[],[]⟩ rfl rfl rfl)) 2 _ ⟨4,id_,off_,a_,0,0,false,[],[]⟩ rfl rfl rfl)) 4 _ ⟨4,id_,off_,a_,b_,0,false,[],[]⟩ rfl rfl rfl)⟩
  ·subst hkv
   as_aux_lemma =>
    have HMid:=Lib.hid (fun W=>hmay_any id W HID.out.1 HID.out.2)
    have Mid:=mayF_in id
    obtain ⟨id_,hmid⟩:∃ y,Hid (mayF id=y):=⟨_,rfl⟩
    rw [hmid.out] at HMid Mid
    obtain ⟨Mid1,Mid2⟩:=Mid
    have HMa:=Lib.hid (fun W=>hmay_any a W HA.out.1 HA.out.2)
    have Ma:=mayF_in a
    obtain ⟨a_,hma⟩:∃ y,Hid (mayF a=y):=⟨_,rfl⟩
    rw [hma.out] at HMa Ma
    obtain ⟨Ma1,Ma2⟩:=Ma
    have x1:=cell_of_row _ _ 1 _ _ _ HK0.out.x
    have x3:=cell_of_row _ _ 3 _ _ _ HK0.out.x
    have gc1:=cell_of_row _ _ 1 _ _ _ HK0.out.b
    have gz1:=frozen_of_row _ _ 1 _ _ HK0.out.b
    have gc3:=cell_of_row _ _ 3 _ _ _ HK0.out.b
    have gz3:=frozen_of_row _ _ 3 _ _ HK0.out.b
    go_wp2_with fail
    refine (HMid.out _).mono ?_
    rintro e w' ⟨rfl,rfl⟩
    go_wp2_with fail
    refine (HMa.out _).mono ?_
    rintro e w' ⟨rfl,rfl⟩
    go_wp2_with fail
    go_meet
    case rel=>exact ⟨_,none,0,0,none,0,0,by omega,(FrBk.set ((FrBk.set (HK0.out) 1 _ ⟨5,id_,0,0,0,0,false,[],[]⟩ rfl rfl rfl)) 3 _ ⟨5,id_,0,a_,0,0,false,[],[]⟩ rfl rfl rfl)⟩
  ·subst hkv
   as_aux_lemma =>
    have HMa:=Lib.hid (fun W=>hmay_any a W HA.out.1 HA.out.2)
    have Ma:=mayF_in a
    obtain ⟨a_,hma⟩:∃ y,Hid (mayF a=y):=⟨_,rfl⟩
    rw [hma.out] at HMa Ma
    obtain ⟨Ma1,Ma2⟩:=Ma
    have x3:=cell_of_row _ _ 3 _ _ _ HK0.out.x
    have gc3:=cell_of_row _ _ 3 _ _ _ HK0.out.b
    have gz3:=frozen_of_row _ _ 3 _ _ HK0.out.b
    go_wp2_with fail
    refine (HMa.out _).mono ?_
    rintro e w' ⟨rfl,rfl⟩
    go_wp2_with fail
    go_meet
    case rel=>exact ⟨_,none,0,0,none,0,0,by omega,(FrBk.set (HK0.out) 3 _ ⟨6,0,0,a_,0,0,false,[],[]⟩ rfl rfl rfl)⟩
  ·subst hkv
   as_aux_lemma =>
    have HMid:=Lib.hid (fun W=>hmay_any id W HID.out.1 HID.out.2)
    have Mid:=mayF_in id
    obtain ⟨id_,hmid⟩:∃ y,Hid (mayF id=y):=⟨_,rfl⟩
    rw [hmid.out] at HMid Mid
    obtain ⟨Mid1,Mid2⟩:=Mid
    have HMa:=Lib.hid (fun W=>hmay_any a W HA.out.1 HA.out.2)
    have Ma:=mayF_in a
    obtain ⟨a_,hma⟩:∃ y,Hid (mayF a=y):=⟨_,rfl⟩
    rw [hma.out] at HMa Ma
    obtain ⟨Ma1,Ma2⟩:=Ma
    have x1:=cell_of_row _ _ 1 _ _ _ HK0.out.x
    have x3:=cell_of_row _ _ 3 _ _ _ HK0.out.x
    have gc1:=cell_of_row _ _ 1 _ _ _ HK0.out.b
    have gz1:=frozen_of_row _ _ 1 _ _ HK0.out.b
    have gc3:=cell_of_row _ _ 3 _ _ _ HK0.out.b
    have gz3:=frozen_of_row _ _ 3 _ _ HK0.out.b
    go_wp2_with fail
    refine (HMid.out _).mono ?_
    rintro e w' ⟨rfl,rfl⟩
    go_wp2_with fail
    refine (HMa.out _).mono ?_
    rintro e w' ⟨rfl,rfl⟩
    go_wp2_with fail
    go_meet
    case rel=>exact ⟨_,none,0,0,none,0,0,by omega,(FrBk.set ((FrBk.set (HK0.out) 1 _ ⟨7,id_,0,0,0,0,false,[],[]⟩ rfl rfl rfl)) 3 _ ⟨7,id_,0,a_,0,0,false,[],[]⟩ rfl rfl rfl)⟩
  ·subst hkv
   as_aux_lemma =>
    have HMa:=Lib.hid (fun W=>hmay_any a W HA.out.1 HA.out.2)
    have Ma:=mayF_in a
    obtain ⟨a_,hma⟩:∃ y,Hid (mayF a=y):=⟨_,rfl⟩
    rw [hma.out] at HMa Ma
    obtain ⟨Ma1,Ma2⟩:=Ma
    have x3:=cell_of_row _ _ 3 _ _ _ HK0.out.x
    have x6:=cell_of_row _ _ 6 _ _ _ HK0.out.x
    have gc3:=cell_of_row _ _ 3 _ _ _ HK0.out.b
    have gz3:=frozen_of_row _ _ 3 _ _ HK0.out.b
    have gc6:=cell_of_row _ _ 6 _ _ _ HK0.out.b
    have gz6:=frozen_of_row _ _ 6 _ _ HK0.out.b
    go_wp2_with fail
    refine (HMa.out _).mono ?_
    rintro e w' ⟨rfl,rfl⟩
    go_wp2_with fail
    go_meet
    case rel=>exact ⟨_,none,0,0,none,0,0,by omega,(FrBk.set ((FrBk.set (HK0.out) 3 _ ⟨8,0,0,a_,0,0,false,[],[]⟩ rfl rfl rfl)) 6 _ ⟨8,0,0,a_,0,0,fin,[],[]⟩ rfl rfl rfl)⟩
  ·subst hkv
   as_aux_lemma =>
    have HF:Hid (∀ W,Below w.heap.size w W→Calls Tryd.prog 13 #[.slice A bs.length c,.int .i64 119] W fun e w'=>∃ v',e=.returned v'∧w'.ownsRow W.heap.size 5 1 v' (bs.take 119).length (bv (bs.take 119))∧Below W.heap.size W w'):=fun W hW=>HFEW.out 119 W hW
    obtain ⟨d,hd⟩:∃ d,Hid (bs.take 119=d):=⟨_,rfl⟩
    have hd119:d.length≤119:=by rw [← hd.out,List.length_take];omega
    have HDLT:Hid (∀ z ∈ d,z<256):=fun z hz=>by rw [← hd.out] at hz;exact HBLT.out z (List.mem_of_mem_take hz)
    rw [hd.out] at HF
    obtain ⟨y,hy,hy2⟩:∃ y:Nat,IntKind.u8.wrap a=(y:Int)∧y<256:=⟨(a % 256).toNat,by rw [IntKind.wrap_u8'];omega,by omega⟩
    obtain ⟨i0,hi,hz0,hz1,hz2⟩:=info_parts infoB
    have HI:=Lib.hid (And.intro hi (And.intro hz0 (And.intro hz1 hz2)))
    clear hi hz0 hz1 hz2
    have S7:Hid (w3.cell? ⟨w.heap.size,7,none⟩=some (.slice A bs.length c)∧w3.cell? ⟨w.heap.size,3,none⟩=some (.int .i64 a)):=⟨cell_of_row _ _ 7 _ _ _ HK0.out.x,cell_of_row _ _ 3 _ _ _ HK0.out.x⟩
    have HS:Hid (∀ W,Below (w.heap.size+2) w3 W→Below (w.heap.size+2) w3 W∧W.cell? ⟨w.heap.size,7,none⟩=some (.slice A bs.length c)∧W.cell? ⟨w.heap.size,3,none⟩=some (.int .i64 a)):=fun W hW =>
     ⟨hW,(hW.cell (p:=⟨w.heap.size,7,none⟩) (show w.heap.size<w.heap.size+2 by omega)).trans S7.out.1,(hW.cell (p:=⟨w.heap.size,3,none⟩) (show w.heap.size<w.heap.size+2 by omega)).trans S7.out.2⟩
    have HD3:Hid (Below w3.heap.size w3 w3.drew):=⟨rfl,rfl,rfl,Nat.le_refl _,fun _ _=>rfl⟩
    go_wp2_with fail
    refine wp_region_held_drew (S:=fun W'=>Below (w.heap.size+2) w3 W'∧W'.cell? ⟨w.heap.size,7,none⟩=some (.slice A bs.length c)∧W'.cell? ⟨w.heap.size,3,none⟩=some (.int .i64 a)) (by kernel_rfl) ?_ (fun hHeld=>?_)
    ·exact HS.out _ (HD3.out.mono (by have:=HSZ.out;omega))
    refine wpAnyH_take (i:=0) (v:=?_) rfl (by kernel_rfl) (by kernel_rfl) (by kernel_rfl) (fun _ _ _ h=>h) (Or.inl ⟨by rfl,?_⟩) (by assumption) ?_
    rotate_left
    ·intro w hSw;(try dsimp only at hSw);go_simp;try with_reducible rfl
    go_simp
    refine wpAnyH_take (i:=1) (v:=?_) rfl (by kernel_rfl) (by kernel_rfl) (by kernel_rfl) (fun _ _ _ h=>h) (Or.inl ⟨by rfl,?_⟩) (by assumption) ?_
    rotate_left
    ·intro w hSw;(try dsimp only at hSw);go_simp;try with_reducible rfl
    go_simp
    refine wpAnyH_take (i:=3) (v:=?_) rfl (by kernel_rfl) (by kernel_rfl) (by kernel_rfl) (fun _ _ _ h=>h) (Or.inl ⟨by rfl,?_⟩) (by assumption) ?_
    rotate_left
    ·intro w hSw;(try dsimp only at hSw);go_simp;try with_reducible rfl
    go_simp
    refine wpAnyH_take (i:=4) (v:=?_) rfl (by kernel_rfl) (by kernel_rfl) (by kernel_rfl) (fun _ _ _ h=>h) (Or.inl ⟨by rfl,?_⟩) (by assumption) ?_
    rotate_left
    ·intro w hSw;(try dsimp only at hSw);go_simp;try with_reducible rfl
    go_simp
    refine wpAnyH_take (i:=5) (v:=?_) rfl (by kernel_rfl) (by kernel_rfl) (by kernel_rfl) (fun _ _ _ h=>h) (Or.inl ⟨by rfl,?_⟩) (by assumption) ?_
    rotate_left
    ·intro w hSw;(try dsimp only at hSw);go_simp;try with_reducible rfl
    go_simp
    refine wpAnyH_ready (rs:=[2,6]) (by kernel_rfl) (by simp) ?_
    refine AllReadyH.cons rfl (fun K hK=>?_) ?_
    ·skip
     go_simp
     refine (HF.out _ (HK0.out.bel.trans (HD3.out.mono (by have:=HSZ.out;omega)))).mono ?_
     rintro e w4 ⟨v4,rfl,ho4,hb4⟩
     obtain ⟨A4,c4,e4,_⟩:=own_form ho4
     subst e4
     have HB4:Hid (Below w3.heap.size w3 w4):=HD3.out.trans (hb4.mono HD3.out.size)
     have HO4:=Lib.hid (own_base (base':=w3.heap.size) ho4 HD3.out.size)
     clear ho4
     clear hb4
     refine hK.out _ _ ?_ (fun hHeld=>?_)
     ·exact HS.out _ (Below.mono (HB4.out) (by have:=HSZ.out;omega))
     clear hK K
     go_simp
     refine wpAnyH_ready (rs:=[6]) (by kernel_rfl) (by simp) ?_
     refine AllReadyH.cons rfl (fun K hK=>?_) AllReadyH.nil
     go_simp
     have HBz:Hid (Below w3.heap.size w3 (w4.alloc (.cells #[.int .u8 (y:Int)] 5))):=HB4.out.alloc HB4.out.size _
     have HOx:Hid ((w4.alloc (.cells #[.int .u8 (y:Int)] 5)).ownsRow w3.heap.size 5 1 (.slice A4 d.length c4) d.length (bv d)):=HO4.out.alloc _
     refine hK.out _ _ ?_ (fun hHeld=>?_)
     ·exact HS.out _ (Below.mono (HBz.out) (by have:=HSZ.out;omega))
     clear hK K
     go_simp
     refine wpAnyH_ready (rs:=[7]) (by kernel_rfl) (by simp) ?_
     refine AllReadyH.cons rfl (fun K hK=>?_) AllReadyH.nil
     refine step_own rfl (.tmp 87) (.tmp 91) 24 rfl w3.heap.size 5 i0 (.int .u8 0) 1 1 Tryd.underlying24 HI.out.1 HI.out.2.1 HI.out.2.2.1 HI.out.2.2.2 rfl (by decide) (.slice A4 d.length c4) d.length (bv d) (by simp [Act.eval,Act.put]) HOx.out (w4.heap.size+1) (some ⟨w4.heap.size,0,none⟩) 1 1 [.int .u8 ((y:Nat):Int)] (by simp [Act.eval,Act.put]) (rd_new _ _ _ _ _ _ _ rfl (by simp) rfl rfl) (by simp [ones,Value.oneCell']) (by unfold maxLen;omega) (by omega) HBz.out.size ?_
     intro v5 w5 ho5 hg5
     obtain ⟨A5,c5,e5,_⟩:=own_form ho5
     subst e5
     have HB5:Hid (Below w3.heap.size w3 w5):=HBz.out.grown hg5 HBz.out.size (fun g hg=>(HOx.out.lt g hg).1)
     have HO5:Hid (w5.ownsRow (w.heap.size+3) 5 1 (.slice A5 (d.length+1) c5) (d.length+1) (bv (d ++ [y]))):=by
      rw [bv_app]
      exact own_base ho5 (by have:=HSZ.out;omega)
     have HK5:=Lib.hid (HK0.out.below HB5.out)
     have hcl5:=cell_of_row _ _ 7 _ _ _ HK5.out.b
     have hfz5:=frozen_of_row _ _ 7 _ _ HK5.out.b
     clear ho5 hg5
     refine hK.out _ _ ?_ (fun hHeld=>?_)
     ·exact HS.out _ (Below.mono (HB5.out) (by have:=HSZ.out;omega))
     clear hK K
     go_simp
     refine wpAnyH_take (i:=8) (v:=?_) rfl (by kernel_rfl) (by kernel_rfl) (by kernel_rfl) (fun _ _ _ h=>h) (Or.inl ⟨by rfl,?_⟩) (by assumption) ?_
     rotate_left
     ·intro w hSw;(try dsimp only at hSw);go_simp;try with_reducible rfl
     go_simp
     refine wpAnyH_ready (rs:=[9]) (by kernel_rfl) (by simp) ?_
     refine AllReadyH.cons rfl (fun K hK=>?_) AllReadyH.nil
     go_simp
     refine hK.out _ _ ?_ (fun hHeld=>?_)
     ·exact HS.out _ ((Below.mono HB5.out (by have:=HSZ.out;omega)).setCell (p:=⟨w.heap.size+2,7,none⟩) (Nat.le_refl (w.heap.size+2)) _)
     clear hK K
     go_simp
     refine wpAnyH_done (by kernel_rfl) ?_ _
     clear hcl5 hfz5
     go_wp2_with fail
     go_meet
     case rel=>exact ⟨_,A5,d.length+1,c5,none,0,0,by omega,HK5.out.data HO5.out (by simp) (by omega) (fun z hz=>by
      rcases List.mem_append.1 hz with h | h
      ·exact HDLT.out z h
      ·simp only [List.mem_cons,List.not_mem_nil,or_false] at h;omega)⟩
    refine AllReadyH.cons rfl (fun K hK=>?_) ?_
    ·skip
     go_simp
     have HBb:Hid (Below w3.heap.size w3 (w3.drew.alloc (.cells #[.int .u8 (y:Int)] 5))):=HD3.out.alloc (Nat.le_refl _) _
     refine hK.out _ _ ?_ (fun hHeld=>?_)
     ·exact HS.out _ (Below.mono (HBb.out) (by have:=HSZ.out;omega))
     clear hK K
     go_simp
     refine wpAnyH_ready (rs:=[2]) (by kernel_rfl) (by simp) ?_
     refine AllReadyH.cons rfl (fun K hK=>?_) AllReadyH.nil
     go_simp
     refine (HF.out _ (HK0.out.bel.trans (HBb.out.mono (by have:=HSZ.out;omega)))).mono ?_
     rintro e w4 ⟨v4,rfl,ho4,hb4⟩
     obtain ⟨A4,c4,e4,_⟩:=own_form ho4
     subst e4
     have HB4:Hid (Below w3.heap.size w3 w4):=HBb.out.trans (hb4.mono HBb.out.size)
     have HO4:=Lib.hid (own_base (base':=w3.heap.size) ho4 HBb.out.size)
     clear ho4
     have HBz:=HB4
     have HOx:=HO4
     have HRd:Hid (Rd w4 (w3.heap.size+1) (some ⟨w3.heap.size,0,none⟩) 1 [.int .u8 ((y:Nat):Int)]):=by
      have h1:Rd (w3.drew.alloc (.cells #[.int .u8 (y:Int)] 5)) (w3.heap.size+1) (some ⟨w3.heap.size,0,none⟩) 1 [.int .u8 ((y:Nat):Int)]:=rd_new _ _ _ _ _ _ _ rfl (by simp) rfl rfl
      exact h1.below hb4 (by simp)
     clear hb4
     refine hK.out _ _ ?_ (fun hHeld=>?_)
     ·exact HS.out _ (Below.mono (HB4.out) (by have:=HSZ.out;omega))
     clear hK K
     go_simp
     refine wpAnyH_ready (rs:=[7]) (by kernel_rfl) (by simp) ?_
     refine AllReadyH.cons rfl (fun K hK=>?_) AllReadyH.nil
     refine step_own rfl (.tmp 87) (.tmp 91) 24 rfl w3.heap.size 5 i0 (.int .u8 0) 1 1 Tryd.underlying24 HI.out.1 HI.out.2.1 HI.out.2.2.1 HI.out.2.2.2 rfl (by decide) (.slice A4 d.length c4) d.length (bv d) (by simp [Act.eval,Act.put]) HOx.out (w3.heap.size+1) (some ⟨w3.heap.size,0,none⟩) 1 1 [.int .u8 ((y:Nat):Int)] (by simp [Act.eval,Act.put]) HRd.out (by simp [ones,Value.oneCell']) (by unfold maxLen;omega) (by omega) HBz.out.size ?_
     intro v5 w5 ho5 hg5
     obtain ⟨A5,c5,e5,_⟩:=own_form ho5
     subst e5
     have HB5:Hid (Below w3.heap.size w3 w5):=HBz.out.grown hg5 HBz.out.size (fun g hg=>(HOx.out.lt g hg).1)
     have HO5:Hid (w5.ownsRow (w.heap.size+3) 5 1 (.slice A5 (d.length+1) c5) (d.length+1) (bv (d ++ [y]))):=by
      rw [bv_app]
      exact own_base ho5 (by have:=HSZ.out;omega)
     have HK5:=Lib.hid (HK0.out.below HB5.out)
     have hcl5:=cell_of_row _ _ 7 _ _ _ HK5.out.b
     have hfz5:=frozen_of_row _ _ 7 _ _ HK5.out.b
     clear ho5 hg5
     refine hK.out _ _ ?_ (fun hHeld=>?_)
     ·exact HS.out _ (Below.mono (HB5.out) (by have:=HSZ.out;omega))
     clear hK K
     go_simp
     refine wpAnyH_take (i:=8) (v:=?_) rfl (by kernel_rfl) (by kernel_rfl) (by kernel_rfl) (fun _ _ _ h=>h) (Or.inl ⟨by rfl,?_⟩) (by assumption) ?_
     rotate_left
     ·intro w hSw;(try dsimp only at hSw);go_simp;try with_reducible rfl
     go_simp
     refine wpAnyH_ready (rs:=[9]) (by kernel_rfl) (by simp) ?_
     refine AllReadyH.cons rfl (fun K hK=>?_) AllReadyH.nil
     go_simp
     refine hK.out _ _ ?_ (fun hHeld=>?_)
     ·exact HS.out _ ((Below.mono HB5.out (by have:=HSZ.out;omega)).setCell (p:=⟨w.heap.size+2,7,none⟩) (Nat.le_refl (w.heap.size+2)) _)
     clear hK K
     go_simp
     refine wpAnyH_done (by kernel_rfl) ?_ _
     clear hcl5 hfz5
     go_wp2_with fail
     go_meet
     case rel=>exact ⟨_,A5,d.length+1,c5,none,0,0,by omega,HK5.out.data HO5.out (by simp) (by omega) (fun z hz=>by
      rcases List.mem_append.1 hz with h | h
      ·exact HDLT.out z h
      ·simp only [List.mem_cons,List.not_mem_nil,or_false] at h;omega)⟩
    exact AllReadyH.nil
  ·subst hkv
   as_aux_lemma =>
    have HMid:=Lib.hid (fun W=>hmay_any id W HID.out.1 HID.out.2)
    have Mid:=mayF_in id
    obtain ⟨id_,hmid⟩:∃ y,Hid (mayF id=y):=⟨_,rfl⟩
    rw [hmid.out] at HMid Mid
    obtain ⟨Mid1,Mid2⟩:=Mid
    have x1:=cell_of_row _ _ 1 _ _ _ HK0.out.x
    have gc1:=cell_of_row _ _ 1 _ _ _ HK0.out.b
    have gz1:=frozen_of_row _ _ 1 _ _ HK0.out.b
    go_wp2_with fail
    refine (HMid.out _).mono ?_
    rintro e w' ⟨rfl,rfl⟩
    go_wp2_with fail
    go_meet
    case rel=>exact ⟨_,none,0,0,none,0,0,by omega,(FrBk.set (HK0.out) 1 _ ⟨10,id_,0,0,0,0,false,[],[]⟩ rfl rfl rfl)⟩
  ·subst hkv
   as_aux_lemma =>
    have HMid:=Lib.hid (fun W=>hmay_any id W HID.out.1 HID.out.2)
    have Mid:=mayF_in id
    obtain ⟨id_,hmid⟩:∃ y,Hid (mayF id=y):=⟨_,rfl⟩
    rw [hmid.out] at HMid Mid
    obtain ⟨Mid1,Mid2⟩:=Mid
    have x1:=cell_of_row _ _ 1 _ _ _ HK0.out.x
    have gc1:=cell_of_row _ _ 1 _ _ _ HK0.out.b
    have gz1:=frozen_of_row _ _ 1 _ _ HK0.out.b
    go_wp2_with fail
    refine (HMid.out _).mono ?_
    rintro e w' ⟨rfl,rfl⟩
    go_wp2_with fail
    go_meet
    case rel=>exact ⟨_,none,0,0,none,0,0,by omega,(FrBk.set (HK0.out) 1 _ ⟨11,id_,0,0,0,0,false,[],[]⟩ rfl rfl rfl)⟩
  ·subst hkv
   as_aux_lemma =>
    have HMa:=Lib.hid (fun W=>hmay_any a W HA.out.1 HA.out.2)
    have Ma:=mayF_in a
    obtain ⟨a_,hma⟩:∃ y,Hid (mayF a=y):=⟨_,rfl⟩
    rw [hma.out] at HMa Ma
    obtain ⟨Ma1,Ma2⟩:=Ma
    have x3:=cell_of_row _ _ 3 _ _ _ HK0.out.x
    have gc3:=cell_of_row _ _ 3 _ _ _ HK0.out.b
    have gz3:=frozen_of_row _ _ 3 _ _ HK0.out.b
    go_wp2_with fail
    refine (HMa.out _).mono ?_
    rintro e w' ⟨rfl,rfl⟩
    go_wp2_with fail
    go_meet
    case rel=>exact ⟨_,none,0,0,none,0,0,by omega,(FrBk.set (HK0.out) 3 _ ⟨12,0,0,a_,0,0,false,[],[]⟩ rfl rfl rfl)⟩
 case rest =>
 obtain ⟨f,A1,n1,c1,A3,n3,c3,hn38,HK⟩:=hcut
 obtain ⟨wd,hwd⟩:∃ wd:World,wc=wd:=⟨_,rfl⟩
 subst hwd
 have HN38:=Lib.hid hn38
 clear HK0 hn38 HKR HSZ HP
 have r5:=cell_of_row _ _ 5 _ _ _ HK.out.x
 have HPB:=Lib.hid (fun W=>pick_any bend 20 W (by decide) (by decide))
 have hp0:=Int.emod_nonneg bend (show (20:Int)≠0 by decide)
 have hp1:=Int.emod_lt_of_pos bend (show (0:Int)<20 by decide)
 obtain ⟨p,hp⟩:∃ x,Hid (bend % 20=x):=⟨_,rfl⟩
 rw [hp.out] at HPB hp0 hp1
 go_wp2_with fail
 refine (HPB.out _).mono ?_
 rintro e w' ⟨rfl,rfl⟩
 go_upto_block 1 with (fail)
 have hkq:=wrapIn (bend.tdiv 20)
 obtain ⟨kq,hkqe⟩:∃ x,wrap64 (bend.tdiv 20)=x:=⟨_,rfl⟩
 rw [hkqe] at hkq ⊢
 have HKQ:=Lib.hid hkq
 clear hkqe hkq r5
 go_cut [4] (fun v wx=>∃ (f:Fr) (A1:Option Addr) (n1 c1:Nat) (A3:Option Addr) (n3 c3:Nat),Hid (FrBk w wx #[.int .i64 k,.int .i64 id,.int .i64 off,.int .i64 a,.int .i64 b,.int .i64 bend,.bool fin,.slice A bs.length c,.slice A2 l.length c2] f A1 n1 c1 A3 n3 c3))
 case first =>
  have hpc:p=10∨p=11∨p=12∨p=13∨p=14∨p=15∨p=16∨p=17∨p=18∨p=19∨p<10:=by omega
  clear hp0 hp1
  rcases hpc with hpv | hpv | hpv | hpv | hpv | hpv | hpv | hpv | hpv | hpv | hpv
  ·subst hpv
   as_aux_lemma =>
    have HQ:=Lib.hid (fun W=>pick_any kq 15 W (by decide) (by decide))
    have q0:=Int.emod_nonneg kq (show (15:Int)≠0 by decide)
    have q1:=Int.emod_lt_of_pos kq (show (0:Int)<15 by decide)
    obtain ⟨x,hx⟩:∃ x,Hid (kq % 15=x):=⟨_,rfl⟩
    rw [hx.out] at HQ q0 q1
    have b0:=cell_of_row _ _ 0 _ _ _ HK.out.b
    have z0:=frozen_of_row _ _ 0 _ _ HK.out.b
    go_wp2_with fail
    refine (HQ.out _).mono ?_
    rintro e w' ⟨rfl,rfl⟩
    go_wp2_with fail
    go_meet
    case rel=>exact ⟨_,A1,n1,c1,A3,n3,c3,HK.out.set 0 _ { f with k:=x - 1 } rfl rfl rfl⟩
  ·subst hpv
   as_aux_lemma =>
    have HQ:=Lib.hid (fun W=>num_any kq W HKQ.out.1 HKQ.out.2)
    obtain ⟨x,hx⟩:∃ x,Hid (numF kq=x):=⟨_,rfl⟩
    rw [hx.out] at HQ
    have b1:=cell_of_row _ _ 1 _ _ _ HK.out.b
    have z1:=frozen_of_row _ _ 1 _ _ HK.out.b
    go_wp2_with fail
    refine (HQ.out _).mono ?_
    rintro e w' ⟨rfl,rfl⟩
    go_wp2_with fail
    go_meet
    case rel=>exact ⟨_,A1,n1,c1,A3,n3,c3,HK.out.set 1 _ { f with id:=x } rfl rfl rfl⟩
  ·subst hpv
   as_aux_lemma =>
    have HQ:=Lib.hid (fun W=>num_any kq W HKQ.out.1 HKQ.out.2)
    obtain ⟨x,hx⟩:∃ x,Hid (numF kq=x):=⟨_,rfl⟩
    rw [hx.out] at HQ
    have b2:=cell_of_row _ _ 2 _ _ _ HK.out.b
    have z2:=frozen_of_row _ _ 2 _ _ HK.out.b
    go_wp2_with fail
    refine (HQ.out _).mono ?_
    rintro e w' ⟨rfl,rfl⟩
    go_wp2_with fail
    go_meet
    case rel=>exact ⟨_,A1,n1,c1,A3,n3,c3,HK.out.set 2 _ { f with off:=x } rfl rfl rfl⟩
  ·subst hpv
   as_aux_lemma =>
    have HQ:=Lib.hid (fun W=>num_any kq W HKQ.out.1 HKQ.out.2)
    obtain ⟨x,hx⟩:∃ x,Hid (numF kq=x):=⟨_,rfl⟩
    rw [hx.out] at HQ
    have b3:=cell_of_row _ _ 3 _ _ _ HK.out.b
    have z3:=frozen_of_row _ _ 3 _ _ HK.out.b
    go_wp2_with fail
    refine (HQ.out _).mono ?_
    rintro e w' ⟨rfl,rfl⟩
    go_wp2_with fail
    go_meet
    case rel=>exact ⟨_,A1,n1,c1,A3,n3,c3,HK.out.set 3 _ { f with a:=x } rfl rfl rfl⟩
  ·subst hpv
   as_aux_lemma =>
    have HQ:=Lib.hid (fun W=>num_any kq W HKQ.out.1 HKQ.out.2)
    obtain ⟨x,hx⟩:∃ x,Hid (numF kq=x):=⟨_,rfl⟩
    rw [hx.out] at HQ
    have b4:=cell_of_row _ _ 4 _ _ _ HK.out.b
    have z4:=frozen_of_row _ _ 4 _ _ HK.out.b
    go_wp2_with fail
    refine (HQ.out _).mono ?_
    rintro e w' ⟨rfl,rfl⟩
    go_wp2_with fail
    go_meet
    case rel=>exact ⟨_,A1,n1,c1,A3,n3,c3,HK.out.set 4 _ { f with b:=x } rfl rfl rfl⟩
  ·subst hpv
   as_aux_lemma =>
    have b6:=cell_of_row _ _ 6 _ _ _ HK.out.b
    have z6:=frozen_of_row _ _ 6 _ _ HK.out.b
    go_wp2_with fail
    go_meet
    case rel=>exact ⟨_,A1,n1,c1,A3,n3,c3,HK.out.set 6 _ { f with fin:=!f.fin } rfl rfl rfl⟩
  ·subst hpv
   as_aux_lemma =>
    obtain ⟨i0,hi,hz0,hz1,hz2⟩:=info_parts infoB
    have HI:=Lib.hid (And.intro hi (And.intro hz0 (And.intro hz1 hz2)))
    clear hi hz0 hz1 hz2
    obtain ⟨y,hy,hy2⟩:∃ y:Nat,IntKind.u8.wrap kq=(y:Int)∧y<256:=⟨(kq % 256).toNat,by rw [IntKind.wrap_u8'];omega,by omega⟩
    have HQ:=Lib.hid (fun W=>pick_any kq 3 W (by decide) (by decide))
    have q0:=Int.emod_nonneg kq (show (3:Int)≠0 by decide)
    have q1:=Int.emod_lt_of_pos kq (show (0:Int)<3 by decide)
    obtain ⟨x,hx⟩:∃ x:Nat,kq % 3=(x:Int)∧x<3:=⟨(kq % 3).toNat,by omega,by omega⟩
    obtain ⟨hx,hx3⟩:=hx
    rw [hx] at HQ
    clear hx q0 q1
    have HQ2:Hid (∀ W:World,Calls Tryd.prog 5 #[.int .i64 kq,.int .i64 3] W fun e w'=>e=.returned (.int .i64 (x:Int))∧w'=W):=fun W=>(HQ.out W).mono fun _ _ ⟨h1,h2⟩=>⟨h1,h2.symm⟩
    go_wp2_with fail
    go_loopw [] (fun wr=>∃ (f:Fr) (A1:Option Addr) (n1 c1:Nat) (A3:Option Addr) (n3 c3:Nat),Hid (FrBk w wr #[.int .i64 k,.int .i64 id,.int .i64 off,.int .i64 a,.int .i64 b,.int .i64 bend,.bool fin,.slice A bs.length c,.slice A2 l.length c2] f A1 n1 c1 A3 n3 c3)) (fun wr=>200 - dataLen wr (w.heap.size+2))
    case atStart=>exact ⟨f,A1,n1,c1,A3,n3,c3,HK⟩
    case round =>
     obtain ⟨f,A1,n1,c1,A3,n3,c3,HK⟩:=hrel
     have b7:=cell_of_row _ _ 7 _ _ _ HK.out.b
     have z7:=frozen_of_row _ _ 7 _ _ HK.out.b
     by_cases hlt:n1<119+x
     ·have hd:decide ((n1:Int)<119+(x:Int))=true:=decide_eq_true (by omega)
      have hd2:decide (n1<119+x)=true:=decide_eq_true hlt
      go_wp2_with fail
      go_quiet ((go_at_call 5;exact Calls.quiet_of_same (HQ2.out _)))
      have bq:∀ m,(wr.drewN m).cell? ⟨w.heap.size+2,7,none⟩=some (.slice A1 n1 c1):=fun m=>b7
      have zq:∀ m,(wr.drewN m).frozen? ⟨w.heap.size+2,7,none⟩=false:=fun m=>z7
      have hsz:Hid (w.heap.size+3≤(wr.alloc (.cells #[.int .u8 (y:Int)] 5)).heap.size):=by have:=HK.out.size;show _≤_;simp only [World.size_alloc];omega
      go_wp2_with (at_builtin;refine wpList_app _ rfl (.tmp 149) (.tmp 152) 24 rfl (w.heap.size+3) 5 i0 (.int .u8 0) 1 1 Tryd.underlying24 HI.out.1 HI.out.2.1 HI.out.2.2.1 HI.out.2.2.2 rfl (by decide) (.slice A1 n1 c1) n1 (bv f.data) rfl ((HK.out.drewN _).od.alloc _) (wr.heap.size+1) (some ⟨wr.heap.size,0,none⟩) 1 1 [.int .u8 ((y:Nat):Int)] rfl (rd_new _ _ _ _ _ _ _ rfl (Nat.lt_succ_self _) rfl rfl) (by simp [ones,Value.oneCell']) (by unfold maxLen;omega) (by omega) hsz.out ?_)
      intro v1 w5 ho5 hg5
      obtain ⟨A5,c5,e5,_⟩:=own_form ho5
      subst e5
      have hba:∀ m,FrBk w ((wr.drewN m).alloc (.cells #[.int .u8 (y:Int)] 5)) #[.int .i64 k,.int .i64 id,.int .i64 off,.int .i64 a,.int .i64 b,.int .i64 bend,.bool fin,.slice A bs.length c,.slice A2 l.length c2] f A1 n1 c1 A3 n3 c3:=fun m=>(HK.out.drewN m).below ((Below.refl _ _).alloc (Nat.le_refl _) _)
      have hb5:=((hba _).grownD hg5).2.2.1.trans (hba _).b
      have b5:=cell_of_row _ _ 7 _ _ _ hb5
      have z5:=frozen_of_row _ _ 7 _ _ hb5
      have HN:Hid (FrBk w (w5.setCell ⟨w.heap.size+2,7,none⟩ (.slice A5 (n1+1) c5)) #[.int .i64 k,.int .i64 id,.int .i64 off,.int .i64 a,.int .i64 b,.int .i64 bend,.bool fin,.slice A bs.length c,.slice A2 l.length c2] { f with data:=f.data ++ [y] } A5 (n1+1) c5 A3 n3 c3) :=
       (hba _).push hg5 (by rw [bv_app];exact ho5) (by simp [HK.out.dl]) (by omega) (fun z hz=>by
        rcases List.mem_append.1 hz with h | h
        ·exact HK.out.lt z h
        ·simp only [List.mem_cons,List.not_mem_nil,or_false] at h;omega)
      have HM:Hid (dataLen (w5.setCell ⟨w.heap.size+2,7,none⟩ (.slice A5 (n1+1) c5)) (w.heap.size+2)=n1+1):=by
       show dataLen _ _=_
       unfold dataLen
       rw [cell_of_row _ _ 7 _ _ _ HN.out.b]
       rfl
      have HM0:Hid (dataLen wr (w.heap.size+2)=n1):=by
       show dataLen _ _=_
       unfold dataLen
       rw [b7]
       rfl
      clear ho5 hg5 hba hb5 bq zq
      go_wp2_with fail
      go_roundw
      case rel=>exact ⟨_,A5,n1+1,c5,A3,n3,c3,HN⟩
      case measure=>rw [HM.out,HM0.out];omega
     ·have hd:decide ((n1:Int)<119+(x:Int))=false:=decide_eq_false (by omega)
      have hd2:decide (n1<119+x)=false:=decide_eq_false hlt
      go_wp2_with fail
      go_quiet ((go_at_call 5;exact Calls.quiet_of_same (HQ2.out _)))
      go_wp2_with fail
      go_meet
      case rel=>exact ⟨f,A1,n1,c1,A3,n3,c3,HK.out.drewN _⟩
  ·subst hpv
   as_aux_lemma =>
    have b8:=cell_of_row _ _ 8 _ _ _ HK.out.b
    have z8:=frozen_of_row _ _ 8 _ _ HK.out.b
    by_cases h0:0<n3
    ·obtain ⟨g,rfl,hg3,hsp⟩:=HK.out.span h0
     have h0i:(0:Int)<(n3:Int):=by omega
     have q0:=Int.emod_nonneg kq (show (n3:Int)≠0 by omega)
     have q1:=Int.emod_lt_of_pos kq (show (0:Int)<(n3:Int) by omega)
     have HQ1:=Lib.hid (fun W=>pick_any kq (n3:Int) W (by omega) (by have:=HK.out.sn;omega))
     obtain ⟨q,hq⟩:∃ x:Nat,kq % (n3:Int)=(x:Int):=⟨(kq % (n3:Int)).toNat,by omega⟩
     rw [hq] at HQ1 q0 q1
     have r0:=Int.emod_nonneg (IntKind.i64.wrap (kq.tdiv 8)) (show (2:Int)≠0 by decide)
     have r1:=Int.emod_lt_of_pos (IntKind.i64.wrap (kq.tdiv 8)) (show (0:Int)<2 by decide)
     have HQ2:=Lib.hid (fun W=>pick_any (IntKind.i64.wrap (kq.tdiv 8)) 2 W (by decide) (by decide))
     obtain ⟨t,ht⟩:∃ x:Nat,IntKind.i64.wrap (kq.tdiv 8) % 2=(x:Int):=⟨(IntKind.i64.wrap (kq.tdiv 8) % 2).toNat,by omega⟩
     rw [ht] at HQ2 r0 r1
     have s0:=Int.emod_nonneg (IntKind.i64.wrap (kq.tdiv 16)) (show (7:Int)≠0 by decide)
     have s1:=Int.emod_lt_of_pos (IntKind.i64.wrap (kq.tdiv 16)) (show (0:Int)<7 by decide)
     have HQ3:=Lib.hid (fun W=>pick_any (IntKind.i64.wrap (kq.tdiv 16)) 7 W (by decide) (by decide))
     obtain ⟨s,hs⟩:∃ x:Int,IntKind.i64.wrap (kq.tdiv 16) % 7=x:=⟨_,rfl⟩
     rw [hs] at HQ3 s0 s1
     clear hq ht hs
     have ht2:(t:Int)<2:=by omega
     have hqt:q * 2+t<n3 * 2:=by omega
     obtain ⟨hcx,hfx,_⟩:=hsp (q * 2+t) hqt
     obtain ⟨vx,hvx⟩:∃ x,f.spans.getD (q * 2+t) 0=x:=⟨_,rfl⟩
     rw [hvx] at hcx
     have hcx2:wc.drew.cell? ⟨g,q * 2+t,none⟩=some (.int .i64 vx):=hcx
     have hfx2:wc.drew.frozen? ⟨g,q * 2+t,none⟩=false:=hfx
     clear hsp hvx
     have HNX:Hid (∀ v:Int,FrBk w (wc.drew.setCell ⟨g,q * 2+t,none⟩ (.int .i64 v)) #[.int .i64 k,.int .i64 id,.int .i64 off,.int .i64 a,.int .i64 b,.int .i64 bend,.bool fin,.slice A bs.length c,.slice A2 l.length c2] { f with spans:=f.spans.set (q * 2+t) v } A1 n1 c1 (some ⟨g,0,none⟩) n3 c3):=by
      obtain ⟨g',e',_,h'⟩:=HK.out.drew.span h0
      simp only [Option.some.injEq,Addr.mk.injEq] at e'
      obtain ⟨rfl,_⟩:=e'
      exact fun v=>(h' _ hqt).2.2 v
     have HS:Hid (∀ W,Below wc.heap.size wc W→W.cell? ⟨w.heap.size+2,8,none⟩=some (.slice (some ⟨g,0,none⟩) n3 c3)):=fun W hW=>(hW.cell (p:=⟨w.heap.size+2,8,none⟩) (by have:=HK.out.size;show w.heap.size+2<_;omega)).trans b8
     have HS2:Hid (∀ v:Int,(wc.drew.setCell ⟨g,q * 2+t,none⟩ (.int .i64 v)).cell? ⟨w.heap.size+2,8,none⟩=some (.slice (some ⟨g,0,none⟩) n3 c3)):=fun v=>by
      show (wc.drew.setCell ⟨g,q * 2+t,none⟩ (.int .i64 v)).cell? ⟨w.heap.size+2,8,none⟩=_
      have hgr:=grown_set (w:=wc.drew) (p:=g) (o:=q * 2+t) (.int .i64 v)
      rw [World.cell?_of_block (a:=⟨w.heap.size+2,8,none⟩) (hgr.block (w.heap.size+2) (by have:=HK.out.size;show w.heap.size+2<wc.heap.size;omega) (fun e=>by cases e;omega))]
      exact b8
     go_wp2_with fail
     refine wp_region_held_drew (S:=fun W'=>W'.cell? ⟨w.heap.size+2,8,none⟩=some (.slice (some ⟨g,0,none⟩) n3 c3)) (by kernel_rfl) ?_ (fun hHeld=>?_)
     ·exact HS.out _ ((Below.refl wc.heap.size wc).drew)
     refine wpAnyH_take (i:=0) (v:=?_) rfl (by kernel_rfl) (by kernel_rfl) (by kernel_rfl) (fun _ _ _ h=>h) (Or.inl ⟨by rfl,?_⟩) (by assumption) ?_
     rotate_left
     ·intro w hSw;(try dsimp only at hSw);go_simp;try with_reducible rfl
     go_simp
     refine wpAnyH_take (i:=1) (v:=?_) rfl (by kernel_rfl) (by kernel_rfl) (by kernel_rfl) (fun _ _ _ h=>h) (Or.inl ⟨by rfl,?_⟩) (by assumption) ?_
     rotate_left
     ·intro w hSw;(try dsimp only at hSw);go_simp;try with_reducible rfl
     go_simp
     refine wpAnyH_take (i:=2) (v:=?_) rfl (by kernel_rfl) (by kernel_rfl) (by kernel_rfl) (fun _ _ _ h=>h) (Or.inl ⟨by rfl,?_⟩) (by assumption) ?_
     rotate_left
     ·intro w hSw;(try dsimp only at hSw);go_simp;try with_reducible rfl
     go_simp
     refine wpAnyH_take (i:=3) (v:=?_) rfl (by kernel_rfl) (by kernel_rfl) (by kernel_rfl) (fun _ _ _ h=>h) (Or.inl ⟨by rfl,?_⟩) (by assumption) ?_
     rotate_left
     ·intro w hSw;(try dsimp only at hSw);go_simp;try with_reducible rfl
     go_simp
     refine wpAnyH_take (i:=4) (v:=?_) rfl (by kernel_rfl) (by kernel_rfl) (by kernel_rfl) (fun _ _ _ h=>h) (Or.inl ⟨by rfl,?_⟩) (by assumption) ?_
     rotate_left
     ·intro w hSw;(try dsimp only at hSw);go_simp;try with_reducible rfl
     go_simp
     refine wpAnyH_take (i:=5) (v:=?_) rfl (by kernel_rfl) (by kernel_rfl) (by kernel_rfl) (fun _ _ _ h=>h) (Or.inl ⟨by rfl,?_⟩) (by assumption) ?_
     rotate_left
     ·intro w hSw;(try dsimp only at hSw);go_simp;try with_reducible rfl
     go_simp
     refine wpAnyH_take (i:=7) (v:=?_) rfl (by kernel_rfl) (by kernel_rfl) (by kernel_rfl) (fun _ _ _ h=>h) (Or.inl ⟨by rfl,?_⟩) (by assumption) ?_
     rotate_left
     ·intro w hSw;(try dsimp only at hSw);go_simp;try with_reducible rfl
     go_simp
     refine wpAnyH_take (i:=8) (v:=?_) rfl (by kernel_rfl) (by kernel_rfl) (by kernel_rfl) (fun _ _ _ h=>h) (Or.inl ⟨by rfl,?_⟩) (by assumption) ?_
     rotate_left
     ·intro w hSw;(try dsimp only at hSw);go_simp;try with_reducible rfl
     go_simp
     refine wpAnyH_take (i:=13) (v:=?_) rfl (by kernel_rfl) (by kernel_rfl) (by kernel_rfl) (fun _ _ _ h=>h) (Or.inl ⟨by rfl,?_⟩) (by assumption) ?_
     rotate_left
     ·intro w hSw;(try dsimp only at hSw);go_simp;try with_reducible rfl
     go_simp
     refine wpAnyH_take (i:=14) (v:=?_) rfl (by kernel_rfl) (by kernel_rfl) (by kernel_rfl) (fun _ _ _ h=>h) (Or.inl ⟨by rfl,?_⟩) (by assumption) ?_
     rotate_left
     ·intro w hSw;(try dsimp only at hSw);go_simp;try with_reducible rfl
     go_simp
     refine wpAnyH_ready (rs:=[6]) (by kernel_rfl) (by simp) ?_
     refine AllReadyH.cons rfl (fun K hK=>?_) AllReadyH.nil
     go_simp
     refine (HQ1.out _).mono ?_
     rintro e w' ⟨rfl,rfl⟩
     refine hK.out _ _ ?_ (fun hHeld=>?_)
     ·exact HS.out _ ((Below.refl wc.heap.size wc).drew)
     clear hK K
     go_simp
     refine wpAnyH_take (i:=10) (v:=?_) rfl (by kernel_rfl) (by kernel_rfl) (by kernel_rfl) (fun _ _ _ h=>h) (Or.inl ⟨by rfl,?_⟩) (by assumption) ?_
     rotate_left
     ·intro w hSw;(try dsimp only at hSw);go_simp;try with_reducible rfl
     go_simp
     refine wpAnyH_take (i:=18) (v:=?_) rfl (by kernel_rfl) (by kernel_rfl) (by kernel_rfl) (fun _ _ _ h=>h) (Or.inl ⟨by rfl,?_⟩) (by assumption) ?_
     rotate_left
     ·intro w hSw;(try dsimp only at hSw);go_simp;try with_reducible rfl
     go_simp
     refine wpAnyH_ready (rs:=[9]) (by kernel_rfl) (by simp) ?_
     refine AllReadyH.cons rfl (fun K hK=>?_) AllReadyH.nil
     go_simp
     refine (HQ2.out _).mono ?_
     rintro e w' ⟨rfl,rfl⟩
     refine hK.out _ _ ?_ (fun hHeld=>?_)
     ·exact HS.out _ ((Below.refl wc.heap.size wc).drew)
     clear hK K
     go_simp
     refine wpAnyH_take (i:=11) (v:=?_) rfl (by kernel_rfl) (by kernel_rfl) (by kernel_rfl) (fun _ _ _ h=>h) (Or.inl ⟨by rfl,?_⟩) (by assumption) ?_
     rotate_left
     ·intro w hSw;(try dsimp only at hSw);go_simp;try with_reducible rfl
     go_simp
     refine wpAnyH_ready (rs:=[12,15]) (by kernel_rfl) (by simp) ?_
     refine AllReadyH.cons rfl (fun K hK=>?_) ?_
     ·skip
      go_simp
      refine hK.out _ _ ?_ (fun hHeld=>?_)
      ·exact HS.out _ ((Below.refl wc.heap.size wc).drew)
      clear hK K
      go_simp
      refine wpAnyH_ready (rs:=[15]) (by kernel_rfl) (by simp) ?_
      refine AllReadyH.cons rfl (fun K hK=>?_) AllReadyH.nil
      go_simp
      refine (HQ3.out _).mono ?_
      rintro e w' ⟨rfl,rfl⟩
      refine hK.out _ _ ?_ (fun hHeld=>?_)
      ·exact HS.out _ ((Below.refl wc.heap.size wc).drew)
      clear hK K
      go_simp
      refine wpAnyH_take (i:=16) (v:=?_) rfl (by kernel_rfl) (by kernel_rfl) (by kernel_rfl) (fun _ _ _ h=>h) (Or.inl ⟨by rfl,?_⟩) (by assumption) ?_
      rotate_left
      ·intro w hSw;(try dsimp only at hSw);go_simp;try with_reducible rfl
      go_simp
      refine wpAnyH_take (i:=17) (v:=?_) rfl (by kernel_rfl) (by kernel_rfl) (by kernel_rfl) (fun _ _ _ h=>h) (Or.inl ⟨by rfl,?_⟩) (by assumption) ?_
      rotate_left
      ·intro w hSw;(try dsimp only at hSw);go_simp;try with_reducible rfl
      go_simp
      refine wpAnyH_take (i:=19) (v:=?_) rfl (by kernel_rfl) (by kernel_rfl) (by kernel_rfl) (fun _ _ _ h=>h) (Or.inl ⟨by rfl,?_⟩) (by assumption) ?_
      rotate_left
      ·intro w hSw;(try dsimp only at hSw);go_simp;try with_reducible rfl
      go_simp
      refine wpAnyH_ready (rs:=[20]) (by kernel_rfl) (by simp) ?_
      refine AllReadyH.cons rfl (fun K hK=>?_) AllReadyH.nil
      go_simp
      refine hK.out _ _ ?_ (fun hHeld=>?_)
      ·exact HS2.out _
      clear hK K
      go_simp
      refine wpAnyH_done (by kernel_rfl) ?_ _
      go_wp2_with fail
      go_meet
      case rel=>exact ⟨_,A1,n1,c1,some ⟨g,0,none⟩,n3,c3,HNX.out _⟩
     refine AllReadyH.cons rfl (fun K hK=>?_) ?_
     ·skip
      go_simp
      refine (HQ3.out _).mono ?_
      rintro e w' ⟨rfl,rfl⟩
      refine hK.out _ _ ?_ (fun hHeld=>?_)
      ·exact HS.out _ ((Below.refl wc.heap.size wc).drew)
      clear hK K
      go_simp
      refine wpAnyH_take (i:=16) (v:=?_) rfl (by kernel_rfl) (by kernel_rfl) (by kernel_rfl) (fun _ _ _ h=>h) (Or.inl ⟨by rfl,?_⟩) (by assumption) ?_
      rotate_left
      ·intro w hSw;(try dsimp only at hSw);go_simp;try with_reducible rfl
      go_simp
      refine wpAnyH_ready (rs:=[12]) (by kernel_rfl) (by simp) ?_
      refine AllReadyH.cons rfl (fun K hK=>?_) AllReadyH.nil
      go_simp
      refine hK.out _ _ ?_ (fun hHeld=>?_)
      ·exact HS.out _ ((Below.refl wc.heap.size wc).drew)
      clear hK K
      go_simp
      refine wpAnyH_take (i:=17) (v:=?_) rfl (by kernel_rfl) (by kernel_rfl) (by kernel_rfl) (fun _ _ _ h=>h) (Or.inl ⟨by rfl,?_⟩) (by assumption) ?_
      rotate_left
      ·intro w hSw;(try dsimp only at hSw);go_simp;try with_reducible rfl
      go_simp
      refine wpAnyH_take (i:=19) (v:=?_) rfl (by kernel_rfl) (by kernel_rfl) (by kernel_rfl) (fun _ _ _ h=>h) (Or.inl ⟨by rfl,?_⟩) (by assumption) ?_
      rotate_left
      ·intro w hSw;(try dsimp only at hSw);go_simp;try with_reducible rfl
      go_simp
      refine wpAnyH_ready (rs:=[20]) (by kernel_rfl) (by simp) ?_
      refine AllReadyH.cons rfl (fun K hK=>?_) AllReadyH.nil
      go_simp
      refine hK.out _ _ ?_ (fun hHeld=>?_)
      ·exact HS2.out _
      clear hK K
      go_simp
      refine wpAnyH_done (by kernel_rfl) ?_ _
      go_wp2_with fail
      go_meet
      case rel=>exact ⟨_,A1,n1,c1,some ⟨g,0,none⟩,n3,c3,HNX.out _⟩
     exact AllReadyH.nil
    ·obtain rfl:n3=0:=by omega
     clear h0
     go_wp2_with fail
     go_meet
     case rel=>exact ⟨f,A1,n1,c1,A3,0,c3,HK⟩
  ·subst hpv
   as_aux_lemma =>
    have b8:=cell_of_row _ _ 8 _ _ _ HK.out.b
    have z8:=frozen_of_row _ _ 8 _ _ HK.out.b
    obtain ⟨i0,hi,hz0,hz1,hz2⟩:=info_parts infoI2
    have HI:=Lib.hid (And.intro hi (And.intro hz0 (And.intro hz1 hz2)))
    clear hi hz0 hz1 hz2
    have HQ:=Lib.hid (fun W=>pick_any kq 2 W (by decide) (by decide))
    obtain ⟨x,hx⟩:∃ x,Hid (kq % 2=x):=⟨_,rfl⟩
    rw [hx.out] at HQ
    have hn8:n3≤8:=HN38.out
    have hsz:Hid (w.heap.size+3≤(wc.drew.alloc (.cells #[.int .i64 0,.int .i64 x] 67)).heap.size):=by have:=HK.out.size;show _≤_;simp only [World.size_alloc];show w.heap.size+3≤wc.heap.size+1;omega
    have HBA:Hid (FrBk w (wc.drew.alloc (.cells #[.int .i64 0,.int .i64 x] 67)) #[.int .i64 k,.int .i64 id,.int .i64 off,.int .i64 a,.int .i64 b,.int .i64 bend,.bool fin,.slice A bs.length c,.slice A2 l.length c2] f A1 n1 c1 A3 n3 c3):=HK.out.drew.below ((Below.refl _ _).alloc (Nat.le_refl _) _)
    have b8d:wc.drew.cell? ⟨w.heap.size+2,8,none⟩=some (.slice A3 n3 c3):=b8
    have b8c:(wc.alloc (.cells #[.int .i64 0,.int .i64 x] 67)).drew.cell? ⟨w.heap.size+2,8,none⟩=some (.slice A3 n3 c3):=cell_of_row _ _ 8 _ _ _ HBA.out.b
    have b8a:(wc.drew.alloc (.cells #[.int .i64 0,.int .i64 x] 67)).cell? ⟨w.heap.size+2,8,none⟩=some (.slice A3 n3 c3):=cell_of_row _ _ 8 _ _ _ HBA.out.b
    go_wp2_with fail
    refine wp_region_held_drew (S:=fun W'=>Below (w.heap.size+2) wc W') (by kernel_rfl) ?_ (fun hHeld=>?_)
    ·exact (Below.mono ((Below.refl wc.heap.size wc).drew) (by have:=HK.out.size;omega))
    refine wpAnyH_take (i:=0) (v:=?_) rfl (by kernel_rfl) (by kernel_rfl) (by kernel_rfl) (fun _ _ _ h=>h) (Or.inl ⟨by rfl,?_⟩) (by assumption) ?_
    rotate_left
    ·intro w hSw;(try dsimp only at hSw);go_simp;try with_reducible rfl
    go_simp
    refine wpAnyH_take (i:=2) (v:=?_) rfl (by kernel_rfl) (by kernel_rfl) (by kernel_rfl) (fun _ _ _ h=>h) (Or.inl ⟨by rfl,?_⟩) (by assumption) ?_
    rotate_left
    ·intro w hSw;(try dsimp only at hSw);go_simp;try with_reducible rfl
    go_simp
    refine wpAnyH_ready (rs:=[1,3]) (by kernel_rfl) (by simp) ?_
    refine AllReadyH.cons rfl (fun K hK=>?_) ?_
    ·skip
     go_simp
     refine hK.out _ _ ?_ (fun hHeld=>?_)
     ·exact (Below.mono ((Below.refl wc.heap.size wc).drew) (by have:=HK.out.size;omega))
     clear hK K
     go_simp
     refine wpAnyH_ready (rs:=[3]) (by kernel_rfl) (by simp) ?_
     refine AllReadyH.cons rfl (fun K hK=>?_) AllReadyH.nil
     go_simp
     refine (HQ.out _).mono ?_
     rintro e w' ⟨rfl,rfl⟩
     refine hK.out _ _ ?_ (fun hHeld=>?_)
     ·exact (Below.mono ((Below.refl wc.heap.size wc).drew) (by have:=HK.out.size;omega))
     clear hK K
     go_simp
     refine wpAnyH_take (i:=4) (v:=?_) rfl (by kernel_rfl) (by kernel_rfl) (by kernel_rfl) (fun _ _ _ h=>h) (Or.inl ⟨by rfl,?_⟩) (by assumption) ?_
     rotate_left
     ·intro w hSw;(try dsimp only at hSw);go_simp;try with_reducible rfl
     go_simp
     refine wpAnyH_ready (rs:=[5]) (by kernel_rfl) (by simp) ?_
     refine AllReadyH.cons rfl (fun K hK=>?_) AllReadyH.nil
     go_simp
     refine hK.out _ _ ?_ (fun hHeld=>?_)
     ·exact (Below.mono (((Below.refl wc.heap.size wc).drew.alloc (Nat.le_refl wc.heap.size) (.cells #[.int .i64 0,.int .i64 x] 67))) (by have:=HK.out.size;omega))
     clear hK K
     go_simp
     refine wpAnyH_ready (rs:=[6]) (by kernel_rfl) (by simp) ?_
     refine AllReadyH.cons rfl (fun K hK=>?_) AllReadyH.nil
     refine step_own rfl (.tmp 184) (.tmp 188) 42 rfl (w.heap.size+3) 67 i0 (.agg #[.int .i64 0,.int .i64 0]) 2 16 Tryd.underlying42 HI.out.1 HI.out.2.1 HI.out.2.2.1 HI.out.2.2.2 rfl (by decide) (.slice A3 n3 c3) n3 (ints f.spans) (by simp [Act.eval,Act.put]) (HK.out.drew.os.alloc _) (wc.heap.size+1) (some ⟨wc.heap.size,0,none⟩) 1 1 (ints [0,x]) (by simp [Act.eval,Act.put]) (rd_new _ _ _ _ _ _ _ rfl (Nat.lt_succ_self _) rfl rfl) (ones_ints _) (by unfold maxLen;omega) (by omega) hsz.out ?_
     intro v5 w5 ho5 hg5
     obtain ⟨A5,c5,e5,_⟩:=own_form ho5
     subst e5
     have HN:Hid (FrBk w (w5.setCell ⟨w.heap.size+2,8,none⟩ (.slice A5 (n3+1) c5)) #[.int .i64 k,.int .i64 id,.int .i64 off,.int .i64 a,.int .i64 b,.int .i64 bend,.bool fin,.slice A bs.length c,.slice A2 l.length c2] { f with spans:=f.spans ++ [0,x] } A1 n1 c1 A5 (n3+1) c5) :=
      HBA.out.pushS hg5 (by rw [ints_app];exact ho5) (by simp [HK.out.sl];omega) (by omega)
     have hb5:=(HBA.out.grownS hg5).2.2.1.trans HBA.out.b
     have b5:=cell_of_row _ _ 8 _ _ _ hb5
     have z5:=frozen_of_row _ _ 8 _ _ hb5
     have HB5:Hid (Below (w.heap.size+3) wc w5):=grow5 HBA.out hg5 ((Below.refl wc.heap.size wc).drew.alloc (Nat.le_refl wc.heap.size) (.cells #[.int .i64 0,.int .i64 x] 67)) HK.out.size
     clear ho5 hg5 hb5
     refine hK.out _ _ ?_ (fun hHeld=>?_)
     ·exact (Below.mono HB5.out (by omega))
     clear hK K
     go_simp
     refine wpAnyH_take (i:=7) (v:=?_) rfl (by kernel_rfl) (by kernel_rfl) (by kernel_rfl) (fun _ _ _ h=>h) (Or.inl ⟨by rfl,?_⟩) (by assumption) ?_
     rotate_left
     ·intro w hSw;(try dsimp only at hSw);go_simp;try with_reducible rfl
     go_simp
     refine wpAnyH_ready (rs:=[8]) (by kernel_rfl) (by simp) ?_
     refine AllReadyH.cons rfl (fun K hK=>?_) AllReadyH.nil
     go_simp
     refine hK.out _ _ ?_ (fun hHeld=>?_)
     ·exact ((Below.mono HB5.out (by omega)).setCell (p:=⟨w.heap.size+2,8,none⟩) (Nat.le_refl (w.heap.size+2)) _)
     clear hK K
     go_simp
     refine wpAnyH_done (by kernel_rfl) ?_ _
     go_wp2_with fail
     go_meet
     case rel=>exact ⟨_,A1,n1,c1,A5,n3+1,c5,HN⟩
    refine AllReadyH.cons rfl (fun K hK=>?_) ?_
    ·skip
     go_simp
     refine (HQ.out _).mono ?_
     rintro e w' ⟨rfl,rfl⟩
     refine hK.out _ _ ?_ (fun hHeld=>?_)
     ·exact (Below.mono ((Below.refl wc.heap.size wc).drew) (by have:=HK.out.size;omega))
     clear hK K
     go_simp
     refine wpAnyH_take (i:=4) (v:=?_) rfl (by kernel_rfl) (by kernel_rfl) (by kernel_rfl) (fun _ _ _ h=>h) (Or.inl ⟨by rfl,?_⟩) (by assumption) ?_
     rotate_left
     ·intro w hSw;(try dsimp only at hSw);go_simp;try with_reducible rfl
     go_simp
     refine wpAnyH_ready (rs:=[1,5]) (by kernel_rfl) (by simp) ?_
     refine AllReadyH.cons rfl (fun K hK=>?_) ?_
     ·skip
      go_simp
      refine hK.out _ _ ?_ (fun hHeld=>?_)
      ·exact (Below.mono ((Below.refl wc.heap.size wc).drew) (by have:=HK.out.size;omega))
      clear hK K
      go_simp
      refine wpAnyH_ready (rs:=[5]) (by kernel_rfl) (by simp) ?_
      refine AllReadyH.cons rfl (fun K hK=>?_) AllReadyH.nil
      go_simp
      refine hK.out _ _ ?_ (fun hHeld=>?_)
      ·exact (Below.mono (((Below.refl wc.heap.size wc).drew.alloc (Nat.le_refl wc.heap.size) (.cells #[.int .i64 0,.int .i64 x] 67))) (by have:=HK.out.size;omega))
      clear hK K
      go_simp
      refine wpAnyH_ready (rs:=[6]) (by kernel_rfl) (by simp) ?_
      refine AllReadyH.cons rfl (fun K hK=>?_) AllReadyH.nil
      refine step_own rfl (.tmp 184) (.tmp 188) 42 rfl (w.heap.size+3) 67 i0 (.agg #[.int .i64 0,.int .i64 0]) 2 16 Tryd.underlying42 HI.out.1 HI.out.2.1 HI.out.2.2.1 HI.out.2.2.2 rfl (by decide) (.slice A3 n3 c3) n3 (ints f.spans) (by simp [Act.eval,Act.put]) (HK.out.drew.os.alloc _) (wc.heap.size+1) (some ⟨wc.heap.size,0,none⟩) 1 1 (ints [0,x]) (by simp [Act.eval,Act.put]) (rd_new _ _ _ _ _ _ _ rfl (Nat.lt_succ_self _) rfl rfl) (ones_ints _) (by unfold maxLen;omega) (by omega) hsz.out ?_
      intro v5 w5 ho5 hg5
      obtain ⟨A5,c5,e5,_⟩:=own_form ho5
      subst e5
      have HN:Hid (FrBk w (w5.setCell ⟨w.heap.size+2,8,none⟩ (.slice A5 (n3+1) c5)) #[.int .i64 k,.int .i64 id,.int .i64 off,.int .i64 a,.int .i64 b,.int .i64 bend,.bool fin,.slice A bs.length c,.slice A2 l.length c2] { f with spans:=f.spans ++ [0,x] } A1 n1 c1 A5 (n3+1) c5) :=
       HBA.out.pushS hg5 (by rw [ints_app];exact ho5) (by simp [HK.out.sl];omega) (by omega)
      have hb5:=(HBA.out.grownS hg5).2.2.1.trans HBA.out.b
      have b5:=cell_of_row _ _ 8 _ _ _ hb5
      have z5:=frozen_of_row _ _ 8 _ _ hb5
      have HB5:Hid (Below (w.heap.size+3) wc w5):=grow5 HBA.out hg5 ((Below.refl wc.heap.size wc).drew.alloc (Nat.le_refl wc.heap.size) (.cells #[.int .i64 0,.int .i64 x] 67)) HK.out.size
      clear ho5 hg5 hb5
      refine hK.out _ _ ?_ (fun hHeld=>?_)
      ·exact (Below.mono HB5.out (by omega))
      clear hK K
      go_simp
      refine wpAnyH_take (i:=7) (v:=?_) rfl (by kernel_rfl) (by kernel_rfl) (by kernel_rfl) (fun _ _ _ h=>h) (Or.inl ⟨by rfl,?_⟩) (by assumption) ?_
      rotate_left
      ·intro w hSw;(try dsimp only at hSw);go_simp;try with_reducible rfl
      go_simp
      refine wpAnyH_ready (rs:=[8]) (by kernel_rfl) (by simp) ?_
      refine AllReadyH.cons rfl (fun K hK=>?_) AllReadyH.nil
      go_simp
      refine hK.out _ _ ?_ (fun hHeld=>?_)
      ·exact ((Below.mono HB5.out (by omega)).setCell (p:=⟨w.heap.size+2,8,none⟩) (Nat.le_refl (w.heap.size+2)) _)
      clear hK K
      go_simp
      refine wpAnyH_done (by kernel_rfl) ?_ _
      go_wp2_with fail
      go_meet
      case rel=>exact ⟨_,A1,n1,c1,A5,n3+1,c5,HN⟩
     refine AllReadyH.cons rfl (fun K hK=>?_) ?_
     ·skip
      go_simp
      refine hK.out _ _ ?_ (fun hHeld=>?_)
      ·exact (Below.mono (((Below.refl wc.heap.size wc).drew.alloc (Nat.le_refl wc.heap.size) (.cells #[.int .i64 0,.int .i64 x] 67))) (by have:=HK.out.size;omega))
      clear hK K
      go_simp
      refine wpAnyH_ready (rs:=[1]) (by kernel_rfl) (by simp) ?_
      refine AllReadyH.cons rfl (fun K hK=>?_) AllReadyH.nil
      go_simp
      refine hK.out _ _ ?_ (fun hHeld=>?_)
      ·exact (Below.mono (((Below.refl wc.heap.size wc).drew.alloc (Nat.le_refl wc.heap.size) (.cells #[.int .i64 0,.int .i64 x] 67))) (by have:=HK.out.size;omega))
      clear hK K
      go_simp
      refine wpAnyH_ready (rs:=[6]) (by kernel_rfl) (by simp) ?_
      refine AllReadyH.cons rfl (fun K hK=>?_) AllReadyH.nil
      refine step_own rfl (.tmp 184) (.tmp 188) 42 rfl (w.heap.size+3) 67 i0 (.agg #[.int .i64 0,.int .i64 0]) 2 16 Tryd.underlying42 HI.out.1 HI.out.2.1 HI.out.2.2.1 HI.out.2.2.2 rfl (by decide) (.slice A3 n3 c3) n3 (ints f.spans) (by simp [Act.eval,Act.put]) (HK.out.drew.os.alloc _) (wc.heap.size+1) (some ⟨wc.heap.size,0,none⟩) 1 1 (ints [0,x]) (by simp [Act.eval,Act.put]) (rd_new _ _ _ _ _ _ _ rfl (Nat.lt_succ_self _) rfl rfl) (ones_ints _) (by unfold maxLen;omega) (by omega) hsz.out ?_
      intro v5 w5 ho5 hg5
      obtain ⟨A5,c5,e5,_⟩:=own_form ho5
      subst e5
      have HN:Hid (FrBk w (w5.setCell ⟨w.heap.size+2,8,none⟩ (.slice A5 (n3+1) c5)) #[.int .i64 k,.int .i64 id,.int .i64 off,.int .i64 a,.int .i64 b,.int .i64 bend,.bool fin,.slice A bs.length c,.slice A2 l.length c2] { f with spans:=f.spans ++ [0,x] } A1 n1 c1 A5 (n3+1) c5) :=
       HBA.out.pushS hg5 (by rw [ints_app];exact ho5) (by simp [HK.out.sl];omega) (by omega)
      have hb5:=(HBA.out.grownS hg5).2.2.1.trans HBA.out.b
      have b5:=cell_of_row _ _ 8 _ _ _ hb5
      have z5:=frozen_of_row _ _ 8 _ _ hb5
      have HB5:Hid (Below (w.heap.size+3) wc w5):=grow5 HBA.out hg5 ((Below.refl wc.heap.size wc).drew.alloc (Nat.le_refl wc.heap.size) (.cells #[.int .i64 0,.int .i64 x] 67)) HK.out.size
      clear ho5 hg5 hb5
      refine hK.out _ _ ?_ (fun hHeld=>?_)
      ·exact (Below.mono HB5.out (by omega))
      clear hK K
      go_simp
      refine wpAnyH_take (i:=7) (v:=?_) rfl (by kernel_rfl) (by kernel_rfl) (by kernel_rfl) (fun _ _ _ h=>h) (Or.inl ⟨by rfl,?_⟩) (by assumption) ?_
      rotate_left
      ·intro w hSw;(try dsimp only at hSw);go_simp;try with_reducible rfl
      go_simp
      refine wpAnyH_ready (rs:=[8]) (by kernel_rfl) (by simp) ?_
      refine AllReadyH.cons rfl (fun K hK=>?_) AllReadyH.nil
      go_simp
      refine hK.out _ _ ?_ (fun hHeld=>?_)
      ·exact ((Below.mono HB5.out (by omega)).setCell (p:=⟨w.heap.size+2,8,none⟩) (Nat.le_refl (w.heap.size+2)) _)
      clear hK K
      go_simp
      refine wpAnyH_done (by kernel_rfl) ?_ _
      go_wp2_with fail
      go_meet
      case rel=>exact ⟨_,A1,n1,c1,A5,n3+1,c5,HN⟩
     exact AllReadyH.nil
    exact AllReadyH.nil
  ·subst hpv
   as_aux_lemma =>
    have b5:=cell_of_row _ _ 5 _ _ _ HK.out.b
    have z5:=frozen_of_row _ _ 5 _ _ HK.out.b
    go_wp2_with fail
    go_meet
    case rel=>exact ⟨_,A1,n1,c1,A3,n3,c3,HK.out.set 5 _ { f with note:=kq } rfl rfl rfl⟩
  ·have n10:¬ p=10:=by omega
   have n11:¬ p=11:=by omega
   have n12:¬ p=12:=by omega
   have n13:¬ p=13:=by omega
   have n14:¬ p=14:=by omega
   have n15:¬ p=15:=by omega
   have n16:¬ p=16:=by omega
   have n17:¬ p=17:=by omega
   have n18:¬ p=18:=by omega
   have n19:¬ p=19:=by omega
   clear hpv
   go_wp2_with fail
   go_meet
   case rel=>exact ⟨f,A1,n1,c1,A3,n3,c3,HK⟩
 case rest =>
 obtain ⟨f,A1,n1,c1,A3,n3,c3,HK⟩:=hcut
 obtain ⟨wd,hwd⟩:∃ wd:World,wc=wd:=⟨_,rfl⟩
 subst hwd
 have b0:=cell_of_row _ _ 0 _ _ _ HK.out.b
 have y0:=cell_of_row _ _ 0 _ _ _ HK.out.r
 have z0:=frozen_of_row _ _ 0 _ _ HK.out.r
 have b1:=cell_of_row _ _ 1 _ _ _ HK.out.b
 have y1:=cell_of_row _ _ 1 _ _ _ HK.out.r
 have z1:=frozen_of_row _ _ 1 _ _ HK.out.r
 have b2:=cell_of_row _ _ 2 _ _ _ HK.out.b
 have y2:=cell_of_row _ _ 2 _ _ _ HK.out.r
 have z2:=frozen_of_row _ _ 2 _ _ HK.out.r
 have b3:=cell_of_row _ _ 3 _ _ _ HK.out.b
 have y3:=cell_of_row _ _ 3 _ _ _ HK.out.r
 have z3:=frozen_of_row _ _ 3 _ _ HK.out.r
 have b4:=cell_of_row _ _ 4 _ _ _ HK.out.b
 have y4:=cell_of_row _ _ 4 _ _ _ HK.out.r
 have z4:=frozen_of_row _ _ 4 _ _ HK.out.r
 have b5:=cell_of_row _ _ 5 _ _ _ HK.out.b
 have y5:=cell_of_row _ _ 5 _ _ _ HK.out.r
 have z5:=frozen_of_row _ _ 5 _ _ HK.out.r
 have b6:=cell_of_row _ _ 6 _ _ _ HK.out.b
 have y6:=cell_of_row _ _ 6 _ _ _ HK.out.r
 have z6:=frozen_of_row _ _ 6 _ _ HK.out.r
 have b7:=cell_of_row _ _ 7 _ _ _ HK.out.b
 have y7:=cell_of_row _ _ 7 _ _ _ HK.out.r
 have z7:=frozen_of_row _ _ 7 _ _ HK.out.r
 have b8:=cell_of_row _ _ 8 _ _ _ HK.out.b
 have y8:=cell_of_row _ _ 8 _ _ _ HK.out.r
 have z8:=frozen_of_row _ _ 8 _ _ HK.out.r
 go_wp2_with fail
 refine bodyPost_ret (results_cell_row rfl _ _ (w.heap.size+1) 44 _ (0,0) _ rfl (put9_heap (.int .i64 f.k) (.int .i64 f.id) (.int .i64 f.off) (.int .i64 f.a) (.int .i64 f.b) (.int .i64 f.note) (.bool f.fin) (.slice A1 n1 c1) (.slice A3 n3 c3) HK.out.r) Tryd.underlying44 rfl (by kernel_rfl)) rfl ?_
 exact HK.out.fin
end Go.Proofs.YtccljifichaieaaDoor.Rv
