/- Joined texts. Conditions: as each theorem lists them. -/
import Derived.Orders
import Derived.Below
import Derived.Laws.AppendOwn
import Derived.Laws.MakeOwn
import Derived.Laws.BytesString
import Derived.Tactics
set_option linter.unusedSimpArgs false
set_option linter.unusedVariables false
set_option maxRecDepth 100000
set_option maxHeartbeats 8000000
namespace Go.Am
open Go
/-- What relates abstract places to the model's: how many blocks there are, where each lies, how many cells each of the model's blocks has, each block's elements' size. -/
structure Ctx where
 n:Nat
 loc:Nat→Nat × Nat
 cz:Nat→Nat
 es:Nat→Nat
/-- An abstract value and the model's. A slice's capacity: 0: not known; k + 1: it is k. -/
inductive VR (c:Ctx):Value→Value→Prop where
 | bool (b:Bool):VR c (.bool b) (.bool b)
 | int (k:IntKind) (n:Int):VR c (.int k n) (.int k n)
 | float (k:FloatKind) (b:Nat):VR c (.float k b) (.float k b)
 | complex (k:FloatKind) (x y:Nat):VR c (.complex k x y) (.complex k x y)
 | string (s:ByteArray):VR c (.string s) (.string s)
 | ptr0:VR c (.pointer none) (.pointer none)
 | ptr (b off:Nat) (h:b<c.n):VR c (.pointer (some ⟨b,off,none⟩)) (.pointer (some ⟨(c.loc b).1,(c.loc b).2+off,none⟩))
 | slice0:VR c (.slice none 0 0) (.slice none 0 0)
 | slice (b off n k m:Nat) (h:b<c.n) (hn:n≤m) (hk:k=0∨k=m+1) (hc:(c.loc b).2+off+m * c.es b≤c.cz (c.loc b).1) :
   VR c (.slice (some ⟨b,off,none⟩) n k) (.slice (some ⟨(c.loc b).1,(c.loc b).2+off,none⟩) n m)
 | empty (b off k:Nat) (a:Addr) (h:b<c.n) (hk:k=0∨k=1):VR c (.slice (some ⟨b,off,none⟩) 0 k) (.slice (some a) 0 0)
 | map0:VR c (.map none) (.map none)
 | chan0:VR c (.chan none) (.chan none)
 | nilFunc:VR c .nilFunc .nilFunc
 | nilIface:VR c .nilIface .nilIface
 | agg (xs ys:Array Value) (hl:xs.size=ys.size) (h:∀ (i:Nat) (x y:Value),xs[i]?=some x→ys[i]?=some y→VR c x y):VR c (.agg xs) (.agg ys)
 | tuple (xs ys:Array Value) (hl:xs.size=ys.size) (h:∀ (i:Nat) (x y:Value),xs[i]?=some x→ys[i]?=some y→VR c x y):VR c (.tuple xs) (.tuple ys)
 | iface (t:TypeId) (x y:Value) (h:VR c x y):VR c (.iface t x) (.iface t y)
 | func (fn:Fn) (xs ys xs' ys':Array Value) (hl:xs.size=ys.size) (h:∀ (i:Nat) (x y:Value),xs[i]?=some x→ys[i]?=some y→VR c x y)
   (hl':xs'.size=ys'.size) (h':∀ (i:Nat) (x y:Value),xs'[i]?=some x→ys'[i]?=some y→VR c x y):VR c (.func fn xs xs') (.func fn ys ys')
end Go.Am
namespace Go.Am
open Go Go.RowKit
theorem cell_of (w:World) (g i:Nat) (cur:Array Value) (e:TypeId) (fr:Nat × Nat) (h:w.heap[g]?=some (.cells cur e fr)):w.cell? ⟨g,i,none⟩=cur[i]?:=by
 simp [World.cell?,h]
variable {P:Program} {G:Nat} {w0 w:World} {c:Ctx} {v:Value}
variable {P:Program} {G:Nat} {w0 w:World} {c:Ctx} {v:Value}
variable {P:Program} {G:Nat} {w0 w:World} {c:Ctx} {v:Value}
structure News (P:Program) (c:Ctx) (w:World) (t:TypeId) (size:Nat) (x:Value) (m:Nat) (news us:List Value):Prop where
 type:(∃ e,P.underlying t=some (.slice e))∨P.underlying t=some .string
 len:∀ w,(Builtin.lenOf x).run P w=.ok m w
 first:(Builtin.firstCells size m x).run P w=.ok us.toArray w
 firstd:(Builtin.firstCells size m x).run P w.drew=.ok us.toArray w.drew
 same:us.length=news.length
 rel:∀ (i:Nat) (v u:Value),news[i]?=some v→us[i]?=some u→VR c v u
section
variable {t tx e:TypeId} {i:TypeInfo} {z:Value}
theorem append_nothing (ht:P.underlying t=some (.slice e)) (hi:P.info? e=some i) {ad:Option Addr} {n cap:Nat} (hle:n≤cap) {u:Value} {news us:List Value} (hn:News P c w tx i.size u 0 news us) (h0:us=[]) (ty:TypeId) :
  (Builtin.append_ #[t,tx] ty #[.slice ad n cap,u]).run P w=.ok (.slice ad n cap) w:=by
 have hf:=hn.first
 rw [h0] at hf
 have hl:=hn.len
 rcases hn.type with ⟨e2,hd⟩ | hd <;> cases ad <;> simp [Builtin.append_,run_underlying ht,run_underlying hd,sizeOf,typeInfo,hi,hl,hle,hf,storeCells]
end
variable {P:Program} {G:Nat} {w0 w:World} {c:Ctx} {v:Value}
variable {P:Program} {G:Nat} {w0 w:World} {c:Ctx} {v:Value}
theorem fold_push:∀ (ns:List Int) (r:ByteArray),ns.foldl (fun r n=>r.push (UInt8.ofNat n.toNat)) r=⟨r.data ++ (ns.map (fun n:Int=>UInt8.ofNat n.toNat)).toArray⟩
 | [],r=>by simp
 | n :: ns,r=>by
   rw [List.foldl_cons,fold_push ns]
   simp [ByteArray.push]
end Go.Am
