/- Joined texts. Conditions: as each theorem lists them. -/
import Derived.Test.YtoahkffdoaphlaaJWb
import Derived.Maps.OwnSet
import Derived.Maps.Views
import Derived.Deep.WholeRow
import Derived.Test.YtoahkffdoaphlaaJWe
import Derived.Laws.CopyRow
import Derived.BigQuiet
set_option linter.unusedSimpArgs false
set_option linter.unusedVariables false
set_option maxRecDepth 100000
set_option maxHeartbeats 80000000
namespace Go.Proofs.Ytoahkffdoaphlaa.Re
open Go Go.RowKit Go.Proofs.Ytoahkffdoaphlaa Go.Proofs.Ytoahkffdoaphlaa.Sp Go.Proofs.Ytoahkffdoaphlaa.Se Go.Maps Go.ChangeMaps Go.MapKept
theorem lawI:Keyed Try.prog 3:=int_keyed Try.underlying3
theorem wfI {i:Int} (h0:-9223372036854775808≤i) (h:i≤9223372036854775807):(Lit.int .i64 i).wf=true:=by
 have h1:IntKind.i64.min=-9223372036854775808:=by rfl
 have h2:IntKind.i64.max=9223372036854775807:=by rfl
 simp only [Lit.wf,h1,h2]
 simp
 omega
/-- How a block of 64 bytes reads. -/
def byteOf:Value→Nat
 | .int _ n=>n.toNat
 | _=>0
def isByte:Value→Bool
 | .int .u8 n=>decide (0≤n∧n<256)
 | _=>false
def blkD (l:List Nat):DataW Unit:=.agg (l.map fun x:Nat=>.lit (.int .u8 (x:Int)))
def blkE:Value→Option (DataW Unit × List MemPlace)
 | .agg a=>if a.size=64∧a.toList.all isByte=true then some (blkD (a.toList.map byteOf),[]) else none
 | _=>none
theorem bytes_back (l:List Nat):(bv l).map byteOf=l:=by
 simp only [bv,List.map_map]
 conv=>rhs;rw [← List.map_id l]
 exact List.map_congr_left fun x _=>by simp [byteOf]
theorem byte_form {v:Value} (h:isByte v=true):v=Value.int .u8 ((byteOf v:Nat):Int)∧byteOf v<256:=by
 unfold isByte at h
 split at h
 ·rename_i n
  have:=of_decide_eq_true h
  simp only [byteOf]
  exact ⟨by congr 1;omega,by omega⟩
 ·cases h
theorem bytes_form:∀ l:List Value,l.all isByte=true→l=bv (l.map byteOf)∧∀ x ∈ l.map byteOf,x<256
 | [],_=>⟨rfl,fun x hx=>by cases hx⟩
 | v :: l,h=>by
   simp only [List.all_cons,Bool.and_eq_true] at h
   obtain ⟨h1,h2⟩:=byte_form h.1
   obtain ⟨g1,g2⟩:=bytes_form l h.2
   refine ⟨?_,fun x hx=>?_⟩
   ·simp only [bv,List.map_cons] at g1 ⊢
    rw [← h1,← g1]
   ·simp only [List.map_cons,List.mem_cons] at hx
    rcases hx with rfl | hx
    ·exact h2
    ·exact g2 x hx
theorem bv_bytes (l:List Nat) (h:∀ x ∈ l,x<256):(bv l).all isByte=true:=by
 simp only [bv,List.all_map,List.all_eq_true]
 intro x hx
 have:=h x hx
 simp [isByte]
 omega
theorem blkE_mk {l:List Nat} (hl:l.length=64) (h:∀ x ∈ l,x<256):blkE (.agg (bv l).toArray)=some (blkD l,[]):=by
 show (if (bv l).toArray.size=64∧(bv l).toArray.toList.all isByte=true then some (blkD ((bv l).toArray.toList.map byteOf),[]) else none)=_
 rw [if_pos ⟨by simp [bv,hl],by simpa using bv_bytes l h⟩]
 simp only [List.toList_toArray,bytes_back]
theorem blkE_inv {v:Value} {z:DataW Unit × List MemPlace} (h:blkE v=some z):∃ l:List Nat,l.length=64∧(∀ x ∈ l,x<256)∧v=.agg (bv l).toArray∧z=(blkD l,[]):=by
 unfold blkE at h
 split at h
 ·rename_i a
  split at h
  ·rename_i hc
   simp only [Option.some.injEq] at h
   obtain ⟨g1,g2⟩:=bytes_form a.toList hc.2
   exact ⟨a.toList.map byteOf,by simp [hc.1],g2,by congr 1;apply Array.ext';rw [← g1],h.symm⟩
  ·cases h
 ·cases h
theorem lit_inj:∀ {a b:List Nat},(a.map fun x:Nat=>(DataW.lit (.int .u8 (x:Int)):DataW Unit))=(b.map fun x:Nat=>.lit (.int .u8 (x:Int)))→a=b
 | [],[],_=>rfl
 | [],_ :: _,h=>by cases h
 | _ :: _,[],h=>by cases h
 | x :: a,y :: b,h=>by
   simp only [List.map_cons,List.cons.injEq,DataW.lit.injEq,Lit.int.injEq,true_and] at h
   rw [lit_inj h.2]
   have:=h.1
   congr 1
   omega
theorem blkD_inj {a b:List Nat} (h:blkD a=blkD b):a=b:=by
 unfold blkD at h
 simp only [DataW.agg.injEq] at h
 exact lit_inj h
/-- Block k of what is kept. -/
def blkL (K:Nat→Nat) (k:Nat):List Nat:=(List.range 64).map fun i=>K (64 * k+i)
theorem blkL_len (K:Nat→Nat) (k:Nat):(blkL K k).length=64:=by simp [blkL]
theorem blkL_get (K:Nat→Nat) (k i:Nat) (h:i<64):(blkL K k)[i]?=some (K (64 * k+i)):=by simp [blkL,h]
theorem blkL_congr {K K':Nat→Nat} {k:Nat} (h:∀ i,i<64→K (64 * k+i)=K' (64 * k+i)):blkL K k=blkL K' k:=by
 unfold blkL
 exact List.map_congr_left fun i hi=>h i (by simpa using hi)
theorem blkL_eq {K:Nat→Nat} {k:Nat} {l:List Nat} (hl:l.length=64) (h:∀ i,i<64→K (64 * k+i)=l.getD i 0):blkL K k=l:=by
 apply List.ext_getElem?
 intro i
 by_cases hi:i<64
 ·rw [blkL_get K k i hi,h i hi,List.getD_eq_getElem?_getD,List.getElem?_eq_getElem (by omega)];rfl
 ·rw [List.getElem?_eq_none (by rw [blkL_len];omega),List.getElem?_eq_none (by omega)]
def zero64:List Nat:=List.replicate 64 0
theorem zeroV:∀ w:World,(zeroValue 122).run Try.prog w=.ok (.agg (bv zero64).toArray) w:=by
 have h:(Try.prog.info? 122).map (fun i=>(i.zero,i.size))=some (some (.agg (bv zero64).toArray),64):=by kernel_rfl
 exact (zero_of_info h).1
/-- What is kept: of each place one byte (0: none); the map was written n times at most. -/
def KpIn (w:World) (v:Value) (n:Nat) (K:Nat→Nat):Prop :=
 (∀ x,K x<256)∧((v=.map none∧∀ x,K x=0)∨∃ (b:Nat) (D:DataW Unit),v=.map (some b)∧w.ownsMap Try.prog 3 blkE b n D∧∀ k:Nat,D.atKey (.int .i64 (k:Int)) (blkD zero64)=blkD (blkL K k))
/-- The block that a map lies in. -/
def fm:Value→List Nat
 | .map (some b)=>[b]
 | _=>[]
theorem zero64_get (i:Nat):zero64.getD i 0=0:=by
 unfold zero64
 rw [List.getD_eq_getElem?_getD,List.getElem?_replicate]
 split <;> rfl
theorem zero64_len:zero64.length=64:=rfl
theorem zero64_lt:∀ x ∈ zero64,x<256:=fun x hx=>by have:=List.eq_of_mem_replicate hx;omega
section
variable {w w':World} {v:Value} {n:Nat} {K:Nat→Nat}
theorem KpIn.none (w:World) (n:Nat):KpIn w (.map none) n (fun _=>0):=⟨fun _=>by show 0<256;omega,.inl ⟨rfl,fun _=>rfl⟩⟩
theorem KpIn.kept {F:List Nat} (h:KpIn w v n K) (hk:Kept F w w') (hf:∀ k ∈ fm v,k ∉ F):KpIn w' v n K:=by
 obtain ⟨h0,h1 | ⟨b,D,rfl,⟨es,clock,hb,r⟩,h3⟩⟩:=h
 ·exact ⟨h0,.inl h1⟩
 ·exact ⟨h0,.inr ⟨b,D,rfl,⟨es,clock,(hk.block b (lt_of_block hb) (hf b (by simp [fm]))).trans hb,r⟩,h3⟩⟩
theorem KpIn.lt (h:KpIn w v n K):∀ k ∈ fm v,k<w.heap.size:=fun k hk=>by
 obtain ⟨_,⟨rfl,_⟩ | ⟨b,D,rfl,h2,_⟩⟩:=h
 ·simp [fm] at hk
 ·simp [fm] at hk;rw [hk];exact h2.lt
theorem KpIn.isMap (h:KpIn w v n K):∀ k ∈ fm v,∃ es clock,w.heap[k]?=some (.map es clock):=fun k hk=>by
 obtain ⟨_,⟨rfl,_⟩ | ⟨b,D,rfl,⟨es,clock,hb,_⟩,_⟩⟩:=h
 ·simp [fm] at hk
 ·simp [fm] at hk;rw [hk];exact ⟨es,clock,hb⟩
theorem KpIn.mono (h:KpIn w v n K) {n':Nat} (hn:n≤n'):KpIn w v n' K:=by
 obtain ⟨h0,h1 | ⟨b,D,rfl,h2,h3⟩⟩:=h
 ·exact ⟨h0,.inl h1⟩
 ·exact ⟨h0,.inr ⟨b,D,rfl,h2.mono hn,h3⟩⟩
theorem blkL_lt (h:∀ x,K x<256) (k:Nat):∀ x ∈ blkL K k,x<256:=fun x hx=>by
 unfold blkL at hx
 obtain ⟨i,_,rfl⟩:=List.mem_map.1 hx
 exact h _
theorem KpIn.look (h:KpIn w v n K) (k:Nat) (hk:(k:Int)≤4611686018427387904):(Instr.lookup 75 v (.int .i64 (k:Int)) false).run Try.prog w=.ok (.agg (bv (blkL K k)).toArray) w:=by
 have hkey:=keyOf_int_mk (P:=Try.prog) Try.underlying3 (wfI (i:=(k:Int)) (by omega) (by omega))
 obtain ⟨h0,⟨rfl,h1⟩ | ⟨b,D,rfl,h2,h3⟩⟩:=h
 ·rw [Maps.look_nil false lawI Try.underlying75 (zeroV w) hkey]
  have e:blkL K k=zero64:=blkL_eq zero64_len fun i hi=>by rw [h1,zero64_get]
  rw [e]
  rfl
 ·obtain ⟨c,ps,hrun,hat⟩:=h2.lookup lawI Try.underlying75 (zeroV w) (blkE_mk (by simp [zero64]) zero64_lt) hkey
  rw [h3] at hat
  obtain ⟨l,_,_,rfl,hz⟩:=blkE_inv hat
  simp only [Prod.mk.injEq] at hz
  rw [hrun,blkD_inj hz.1]
theorem KpIn.put {b:Nat} (h:KpIn w (.map (some b)) n K) (hn:n≤1152921504606846976) (k:Nat) (hk:(k:Int)≤4611686018427387904) (l:List Nat) (hl:l.length=64) (hlt:∀ x ∈ l,x<256) :
  ∃ w',(Instr.mapUpdate 75 (.map (some b)) (.int .i64 (k:Int)) (.agg (bv l).toArray)).run Try.prog w=.ok () w'∧KpIn w' (.map (some b)) (n+1) (fun x=>if x / 64=k then l.getD (x % 64) 0 else K x)∧w.grownBy w' (some b):=by
 have hkey:=keyOf_int_mk (P:=Try.prog) Try.underlying3 (wfI (i:=(k:Int)) (by omega) (by omega))
 obtain ⟨h0,⟨e,_⟩ | ⟨b',D,e,h2,h3⟩⟩:=h
 ·cases e
 ·cases e
  obtain ⟨w',hrun,ho,hg⟩:=h2.update lawI Try.underlying75 (by unfold maxLen;omega) hkey (blkE_mk hl hlt)
  refine ⟨w',hrun,⟨fun x=>?_,.inr ⟨b,_,rfl,ho,fun j=>?_⟩⟩,hg⟩
  ·show (if x / 64=k then l.getD (x % 64) 0 else K x)<256
   split
   ·rw [List.getD_eq_getElem?_getD,List.getElem?_eq_getElem (by omega)]
    exact hlt _ (List.getElem_mem _)
   ·exact h0 x
  ·by_cases hj:j=k
   ·subst hj
    rw [atKey_put_same (k:=Lit.int .i64 (j:Int)) h2.isMap trivial]
    refine congrArg blkD (blkL_eq hl fun i hi=>?_).symm
    show (if (64 * j+i) / 64=j then l.getD ((64 * j+i) % 64) 0 else K (64 * j+i))=_
    rw [if_pos (by omega),show (64 * j+i) % 64=i by omega]
   ·rw [atKey_put_other (by simp;omega),h3]
    refine congrArg blkD (blkL_congr fun i hi=>?_)
    show _=(if (64 * j+i) / 64=k then l.getD ((64 * j+i) % 64) 0 else K (64 * j+i))
    rw [if_neg (by omega)]
theorem KpIn.del (h:KpIn w v n K) (d:Int) (hd:-1≤d∧d≤4611686018427387904) (ty:TypeId) :
  ∃ w',(Builtin.delete_ #[75,3] ty #[v,.int .i64 d]).run Try.prog w=.ok (.tuple #[]) w'∧KpIn w' v n (fun x=>if ((x / 64:Nat):Int)=d then 0 else K x)∧Kept (fm v) w w':=by
 have hkey:=keyOf_int_mk (P:=Try.prog) Try.underlying3 (wfI (i:=d) (by omega) (by omega))
 obtain ⟨h0,⟨rfl,h1⟩ | ⟨b,D,rfl,h2,h3⟩⟩:=h
 ·refine ⟨w,Maps.drop_nil lawI Try.underlying75 hkey ty,⟨fun x=>?_,.inl ⟨rfl,fun x=>?_⟩⟩,Kept.refl _ _⟩
  ·show (if ((x / 64:Nat):Int)=d then 0 else K x)<256
   split
   ·omega
   ·exact h0 x
  ·show (if ((x / 64:Nat):Int)=d then 0 else K x)=0
   rw [h1];simp
 ·obtain ⟨w',hrun,ho,es,clock,es',clock',hb,rfl⟩:=h2.drop lawI Try.underlying75 hkey ty
  refine ⟨_,hrun,⟨fun x=>?_,.inr ⟨b,_,rfl,ho,fun j=>?_⟩⟩,⟨rfl,rfl,rfl,by simp [setBlock],fun i _ hi=>heap_setBlock_other hb _ (fun e=>hi (by rw [e];simp [fm]))⟩⟩
  ·show (if ((x / 64:Nat):Int)=d then 0 else K x)<256
   split
   ·omega
   ·exact h0 x
  ·by_cases hj:(j:Int)=d
   ·subst hj
    rw [atKey_del_same]
    refine congrArg blkD (blkL_eq zero64_len fun i hi=>?_).symm
    show (if (((64 * j+i) / 64:Nat):Int)=(j:Int) then 0 else K (64 * j+i))=_
    rw [if_pos (by have:(64 * j+i) / 64=j:=by omega
                   rw [this]),zero64_get]
   ·rw [atKey_del_other (by simp;omega),h3]
    refine congrArg blkD (blkL_congr fun i hi=>?_)
    show _=(if (((64 * j+i) / 64:Nat):Int)=d then 0 else K (64 * j+i))
    rw [if_neg (by have:(64 * j+i) / 64=j:=by omega
                   rw [this];exact hj)]
theorem KpIn.new (w:World):KpIn (w.alloc (.map #[] 0)) (.map (some w.heap.size)) 0 (fun _=>0) :=
 ⟨fun _=>by show 0<256;omega,.inr ⟨_,_,rfl,World.ownsMap_made _ _ _ _,fun k=>by
  show blkD zero64=_
  exact congrArg blkD (blkL_eq zero64_len fun i hi=>by rw [zero64_get]).symm⟩⟩
end
end Go.Proofs.Ytoahkffdoaphlaa.Re
namespace Go.Proofs.Ytoahkffdoaphlaa.Re
open Go Go.RowKit Go.Proofs.Ytoahkffdoaphlaa Go.Proofs.Ytoahkffdoaphlaa.Sp Go.Proofs.Ytoahkffdoaphlaa.Se Go.Maps
/-- What is kept behind these bytes were put there. -/
def putK (K:Nat→Nat) (at':Nat) (bs:List Nat):Nat→Nat:=fun x=>if at'≤x∧x<at'+bs.length then bs.getD (x - at') 0 else K x
theorem putK_nil (K:Nat→Nat) (a:Nat):putK K a []=K:=by
 funext x
 unfold putK
 rw [if_neg (by simp only [List.length_nil];omega)]
theorem putK_step (K:Nat→Nat) (a i m:Nat) (bs:List Nat) (hm:i+m≤bs.length):putK (putK K a (bs.take i)) (a+i) ((bs.drop i).take m)=putK K a (bs.take (i+m)):=by
 funext x
 unfold putK
 simp only [List.length_take,List.length_drop]
 by_cases h1:a+i≤x∧x<a+i+m
 ·rw [if_pos (by omega),if_pos (by omega)]
  simp only [List.getD_eq_getElem?_getD,List.getElem?_take,List.getElem?_drop]
  rw [if_pos (by omega),if_pos (by omega),show i+(x - (a+i))=x - a by omega]
 ·rw [if_neg (by omega)]
  by_cases h2:a≤x∧x<a+i
  ·rw [if_pos (by omega),if_pos (by omega)]
   simp only [List.getD_eq_getElem?_getD,List.getElem?_take]
   rw [if_pos (by omega),if_pos (by omega)]
  ·rw [if_neg (by omega),if_neg (by omega)]
/-- Block k behind some bytes were laid into it. -/
theorem blkL_put (K:Nat→Nat) (x:Nat) (bs:List Nat) (h:x % 64+bs.length≤64):(fun y=>if y / 64=x / 64 then ((blkL K (x / 64)).take (x % 64) ++ bs ++ (blkL K (x / 64)).drop (x % 64+bs.length)).getD (y % 64) 0 else K y)=putK K x bs:=by
 funext y
 unfold putK
 by_cases hy:y / 64=x / 64
 ·rw [if_pos hy]
  simp only [List.getD_eq_getElem?_getD]
  have hl:((blkL K (x / 64)).take (x % 64)).length=x % 64:=by rw [List.length_take,blkL_len];omega
  have hg:∀ i,i<64→(blkL K (x / 64))[i]?=some (K (64 * (x / 64)+i)):=fun i hi=>blkL_get K _ i hi
  by_cases h1:x≤y∧y<x+bs.length
  ·rw [if_pos h1,List.getElem?_append_left (by rw [List.length_append,hl];omega),List.getElem?_append_right (by rw [hl];omega),hl,show y % 64 - x % 64=y - x by omega]
  ·rw [if_neg h1]
   by_cases h2:y<x
   ·rw [List.append_assoc,List.getElem?_append_left (by rw [hl];omega),List.getElem?_take,if_pos (by omega),hg _ (by omega),show 64 * (x / 64)+y % 64=y by omega]
    rfl
   ·rw [List.getElem?_append_right (by rw [List.length_append,hl];omega),List.length_append,hl,List.getElem?_drop,show x % 64+bs.length+(y % 64 - (x % 64+bs.length))=y % 64 by omega,hg _ (by omega),show 64 * (x / 64)+y % 64=y by omega]
    rfl
 ·rw [if_neg hy,if_neg (by omega)]
theorem size64:(Try.prog.info? 122).map (·.size)=some 64:=by kernel_rfl
theorem bv_one (l:List Nat):(bv l).toArray.all (·.oneCell')=true:=by
 simp [bv,Value.oneCell']
theorem slice64 (g r:Nat) (hr:r<64) (W:World):(Instr.sliceAt 122 (.pointer (some ⟨g,0,none⟩)) (some (.int .i64 (r:Int))) none none).run Try.prog W=.ok (.slice (some ⟨g,r,none⟩) (64 - r) (64 - r)) W:=by
 have e1:Try.prog.arrayLen 122=64:=by kernel_rfl
 have e2:(sizeOf (Try.prog.elem 122)).run Try.prog W=.ok 1 W:=by kernel_rfl
 have e3:Try.prog.underlying 122=some (.array (Try.prog.arrayLen 122) (Try.prog.elem 122)):=by kernel_rfl
 rw [run_sliceAt_array_l (P:=Try.prog) W 122 ⟨g,0,none⟩ e3 .i64 (r:Int) (by omega) (by rw [e1];omega),e2,e1]
 simp only [Result.andThen_ok,slicedAt,Int.toNat_natCast,Nat.mul_one]
 rw [if_neg (by omega)]
 unfold Addr.add
 simp
 omega
theorem load64 (w:World) (g:Nat) (C:Array Value) (hg:w.heap[g]?=some (.cells C 122 (0,0))) (hC:C.size=64):(Instr.loadAt 122 (.pointer (some ⟨g,0,none⟩))).run Try.prog w=.ok (.agg C) w:=by
 simp only [Instr.loadAt,Instr.sureAddr,Sem.run_bind,Sem.run_pure,Result.andThen]
 exact run_loadVar_row w g 122 122 C (0,0) _ hg Try.underlying122 rfl (by rw [size64,hC])
theorem rd_map {w:World} {v:Value} {n m B:Nat} {K:Nat→Nat} {A:Option Addr} {xs:List Value} (h:KpIn w v n K) (hx:Rd w B A m xs) (hm:0<m):∀ a,A=some a→a.block ∉ fm v:=fun a ea hk=>by
 obtain ⟨es,clock,hb⟩:=h.isMap _ hk
 obtain ⟨b,off,e,_,hc⟩:=hx.2 hm
 rw [ea] at e
 cases e
 have hl:0<xs.length:=by rw [hx.1];exact hm
 have:=hc 0 _ (List.getElem?_eq_getElem hl)
 simp [World.cell?,hb] at this
/-- What stands at a round of put: i bytes were put. -/
structure PutJ (w wr:World) (p o:Nat) (T:TypeId) (cur:Array Value) (v:Value) (b n:Nat) (K:Nat→Nat) (a:Nat) (bs:List Nat) (i:Nat):Prop where
 hp:wr.heap[p]?=some (.cells (cur.setIfInBounds o (.map (some b))) T (0,0))
 kp:KpIn wr (.map (some b)) (n+i) (putK K a (bs.take i))
 kept:Kept (p :: fm v) w wr
 new:b ∈ fm v∨w.heap.size≤b
section
variable {w:World} {p o:Nat} {T:TypeId} {cur:Array Value} {v:Value} {n:Nat} {K:Nat→Nat} {A:Option Addr}
theorem put_kp (hp:w.heap[p]?=some (.cells cur T (0,0))) (ho:cur[o]?=some v) (hK:KpIn w v n K) (a:Nat) (bs:List Nat) (c:Nat) (hat:a+bs.length≤4611686018427387903) (hn:n+bs.length≤1152921504606846976)
  (hx:Rd w w.heap.size A bs.length (bv bs)) (hc:bs.length≤c) (ha:0<bs.length→∀ z,A=some z→z.block≠p) (hlt:∀ x ∈ bs,x<256) :
  Calls Try.prog 92 #[.pointer (some ⟨p,o,none⟩),.int .i64 (a:Int),.slice A bs.length c] w fun e w'=>e=.returned (.tuple #[]) ∧
   ∃ v',w'.heap[p]?=some (.cells (cur.setIfInBounds o v') T (0,0))∧KpIn w' v' (n+bs.length) (putK K a bs)∧Kept (p :: fm v) w w'∧∀ k ∈ fm v',k ∈ fm v∨w.heap.size≤k:=by
 obtain ⟨mv,rfl⟩:∃ m,v=.map m:=by
  obtain ⟨_,⟨rfl,_⟩ | ⟨b,D,rfl,_⟩⟩:=hK
  ·exact ⟨_,rfl⟩
  ·exact ⟨_,rfl⟩
 have hc0:=cell_slot hp ho
 have hf0:w.frozen? ⟨p,o,none⟩=false:=free_slot hp
 have hmm:=@run_makeMap Try.prog
 have heq:∀ W:World,(binOp .eql 75 (.map mv) (.map none)).run Try.prog W=.ok (.bool mv.isNone) W:=fun W=>by
  cases mv <;> kernel_rfl
 have HP:=Lib.hid hp
 have HO:=Lib.hid ho
 have HK:=Lib.hid hK
 have HX:=Lib.hid hx
 have HA:=Lib.hid ha
 have HL:=Lib.hid hlt
 have HPO:Hid (p ∉ fm (.map mv)):=fun hm=>by
  obtain ⟨es,cl,hb⟩:=hK.isMap _ hm
  rw [hp] at hb;cases hb
 clear hp ho hK hx ha hlt
 obtain ⟨N,hN⟩:∃ N,bs.length=N:=⟨_,rfl⟩
 rw [hN] at hat hn hc ⊢
 go_enter Try.func92,Try.ntmps92
 go_upto_if 11 with (fail)
 go_cut [] (fun wx=>∃ b,Hid (PutJ w wx p o T cur (.map mv) b n K a bs 0))
 case first =>
  cases mv with
  | none =>
    have hp1:(w.alloc (.map #[] 0)).heap[p]?=some (.cells cur T (0,0)):=(Below.heap_alloc _ _ _ (lt_of_block HP.out)).trans HP.out
    have hc1:=cell_slot hp1 HO.out
    have hf1:(w.alloc (.map #[] 0)).frozen? ⟨p,o,none⟩=false:=free_slot hp1
    have HP1:=Lib.hid hp1
    clear hp1 hc0 hf0
    go_wp2_with fail
    go_meet
    case rel =>
     refine ⟨w.heap.size,⟨set_slot HP1.out o _,?_,?_,.inr (Nat.le_refl _)⟩⟩
     ·rw [List.take_zero,putK_nil]
      have h0:K=fun _=>0:=by
       obtain ⟨_,⟨_,h⟩ | ⟨b,D,e,_⟩⟩:=HK.out
       ·funext x;exact h x
       ·cases e
      rw [h0]
      exact ((KpIn.new w).kept (Kept.ofBelow [] (Below.refl _ _)) (by simp)).mono (Nat.zero_le _) |>.kept (F:=[p]) ⟨rfl,rfl,rfl,by simp [World.setCell],fun k _ hn=>Below.heap_setCell _ _ _ _ (by simpa using hn)⟩ (fun k hk=>by simp [fm] at hk;have:=lt_of_block HP.out;simp;omega)
     ·refine Kept.then (b:=w.alloc (.map #[] 0)) ((Kept.ofBelow _ ((Below.refl _ _).alloc (Nat.le_refl _) _))) ⟨rfl,rfl,rfl,by simp [World.setCell],fun k _ hn=>Below.heap_setCell _ _ _ _ (by simp at hn;exact hn.1)⟩
  | some b =>
    go_wp2_with fail
    go_meet
    case rel =>
     refine ⟨b,⟨?_,?_,Kept.refl _ _,.inl (by simp [fm])⟩⟩
     ·rw [set_same HO.out];exact HP.out
     ·rw [List.take_zero,putK_nil];exact HK.out
 case rest =>
  clear hmm heq hc0 hf0
  obtain ⟨b,HJ⟩:=hcut
  go_wp2_with fail
  go_loopw [1,2] (fun v1 v2 wr=>∃ (i M:Nat) (A':Option Addr) (c':Nat),i+M=N∧M≤c'∧v1=.int .i64 ((a+i:Nat):Int)∧v2=.slice A' M c'∧Hid (PutJ w wr p o T cur (.map mv) b n K a bs i∧Rd w w.heap.size A' M (bv (bs.drop i))∧(0<M→∀ z,A'=some z→z.block≠p))) (fun v1 _ _=>a+N - (intOf v1).toNat)
  case atStart=>exact ⟨0,N,A,c,by omega,hc,rfl,rfl,HJ.out,by rw [← hN];exact HX.out,fun h=>HA.out (by omega)⟩
  case round =>
   clear HJ HX HA
   obtain ⟨i,M,A',c',hi,hic,rfl,rfl,HJ⟩:=hrel
   have HJP:=Lib.hid HJ.out.1
   have HJR:=Lib.hid HJ.out.2.1
   have HJA:=Lib.hid HJ.out.2.2
   clear HJ
   by_cases hlt:0<M
   ·have hltI:(0:Int)<(M:Int):=by omega
    obtain ⟨X,hX⟩:∃ X,a+i=X:=⟨_,rfl⟩
    rw [hX]
    obtain ⟨kq,hkq⟩:∃ k,X / 64=k:=⟨_,rfl⟩
    obtain ⟨r,hr⟩:∃ k,X % 64=k:=⟨_,rfl⟩
    have htd:Int.tdiv (X:Int) 64=(kq:Int):=by rw [← hkq];rw [Int.tdiv_eq_ediv_of_nonneg (by omega)];omega
    have htm:Int.tmod (X:Int) 64=(r:Int):=by rw [← hr];rw [Int.tmod_eq_emod_of_nonneg (by omega)];omega
    have hXI:(X:Int)≤4611686018427387903:=by omega
    have hrI:(r:Int)<64:=by omega
    have hkI:(kq:Int)≤4611686018427387903:=by omega
    have hc0:=cell_slot HJP.out.hp (slot_set HO.out (u:=.map (some b)))
    have hlk:=HJP.out.kp.look kq (by omega)
    obtain ⟨L,hL⟩:∃ L,blkL (putK K a (bs.take i)) kq=L:=⟨_,rfl⟩
    rw [hL] at hlk
    have hz:=zeroV
    obtain ⟨Z,hZ⟩:∃ x,(bv zero64).toArray=x:=⟨_,rfl⟩
    obtain ⟨C,hC⟩:∃ x,(bv L).toArray=x:=⟨_,rfl⟩
    have hCs:C.size=64:=by rw [← hC];simp [bv,← hL,blkL_len]
    have hst:=fun W:World=>run_storeCells_new (P:=Try.prog) W 122 (bv zero64).toArray (bv L).toArray (by rw [size64];simp [bv,← hL,blkL_len]) (by simp [bv,← hL,blkL_len,zero64_len]) (bv_one _)
    rw [hZ,hC] at hst
    rw [hZ] at hz
    rw [hC] at hlk
    clear hZ
    go_upto_region 4 with (fail)
    have hCi:C.toList=bv L:=by rw [← hC]
    have hLl:L.length=64:=by rw [← hL,blkL_len]
    obtain ⟨bb,oo,hA',hbb,hcs⟩:=HJR.out.2 hlt
    subst hA'
    obtain ⟨m,hm⟩:∃ m,Nat.min M (64 - r)=m:=⟨_,rfl⟩
    have hmr:m≤M∧r+m≤64∧0<m:=by have:Nat.min M (64 - r)=min M (64 - r):=rfl;omega
    obtain ⟨w1,hw1⟩:∃ x,wr.alloc (.cells C 122)=x:=⟨_,rfl⟩
    obtain ⟨g,hg⟩:∃ x,wr.heap.size=x:=⟨_,rfl⟩
    have hg1:w1.heap[g]?=some (.cells C 122 (0,0)):=by rw [← hw1,← hg];exact heap_alloc_new wr _
    have hsl:=slice64 g r (by omega)
    obtain ⟨ns,hns⟩:∃ l:List Nat,(bs.drop i).take m=l:=⟨_,rfl⟩
    have hnl:ns.length=m:=by rw [← hns,List.length_take,List.length_drop];omega
    have hB1:Below wr.heap.size wr w1:=by rw [← hw1];exact (Below.refl _ _).alloc (Nat.le_refl _) _
    have hcp:=fun ty=>run_copy_row (P:=Try.prog) w1 30 30 ty 5 g r (64 - r) (64 - r) ⟨bb,oo,none⟩ M c' C 122 (bv ns) Try.underlying30 (by kernel_rfl) hg1 (by simp only [bv,List.length_map,hnl];exact hm.symm) (fun j x hj=>by
     rw [Addr.add_lit]
     have hj':j<m:=by
      have:=(List.getElem?_eq_some_iff.1 hj).1
      simpa [bv,hnl] using this
     have hbw:bb<wr.heap.size:=Nat.lt_of_lt_of_le hbb HJP.out.kept.size
     have h1:w1.cell? ⟨bb,oo+j,none⟩=wr.cell? ⟨bb,oo+j,none⟩:=hB1.cell (p:=⟨bb,oo+j,none⟩) hbw
     have hbf:bb ∉ p :: fm (.map mv):=by
      intro hm'
      rcases List.mem_cons.1 hm' with h | h
      ·exact HJA.out hlt _ rfl h
      ·exact rd_map HK.out HJR.out hlt _ rfl h
     have h2:wr.cell? ⟨bb,oo+j,none⟩=w.cell? ⟨bb,oo+j,none⟩:=World.cell?_of_block (a:=⟨bb,oo+j,none⟩) (HJP.out.kept.block bb hbb hbf)
     rw [h1,h2]
     refine hcs j x ?_
     rw [← hns] at hj
     simp only [bv,List.map_take,List.getElem?_take] at hj
     rw [if_pos hj'] at hj
     exact hj) (by simp only [bv,List.length_map,hnl,hCs];omega) (by simp [bv,Value.oneCell'])
    simp only [show (bv ns).length=m by simp [bv,hnl]] at hcp
    have hmI:(m:Int)≤(M:Int):=by omega
    obtain ⟨w2,hw2⟩:∃ x,w1.setRow g (C.toList.take r ++ bv ns ++ C.toList.drop (r+m)).toArray=x:=⟨_,rfl⟩
    rw [hw2] at hcp
    rw [hw1,hg]
    go_upto_region 5 with (fail)
    have hL2l:(L.take r ++ ns ++ L.drop (r+m)).length=64:=by simp only [List.length_append,List.length_take,List.length_drop,hLl,hnl];omega
    have hC2e:(C.toList.take r ++ bv ns ++ C.toList.drop (r+m)).toArray=(bv (L.take r ++ ns ++ L.drop (r+m))).toArray:=by
     rw [hCi];simp [bv]
    rw [hC2e] at hw2
    obtain ⟨L2,hL2⟩:∃ x,L.take r ++ ns ++ L.drop (r+m)=x:=⟨_,rfl⟩
    rw [hL2] at hw2 hL2l
    have hL2t:∀ x ∈ L2,x<256:=by
     rw [← hL2,← hL]
     intro x hx
     have hb1:=blkL_lt HJP.out.kp.1 kq
     simp only [List.mem_append] at hx
     rcases hx with (hx | hx) | hx
     ·exact hb1 x (List.mem_of_mem_take hx)
     ·rw [← hns] at hx;exact HL.out x (List.mem_of_mem_drop (List.mem_of_mem_take hx))
     ·exact hb1 x (List.mem_of_mem_drop hx)
    have hg2:w2.heap[g]?=some (.cells (bv L2).toArray 122 (0,0)):=by rw [← hw2];exact setRow_heap w1 g C _ _ _ hg1
    have hk2:Kept [g] w1 w2:=by
     rw [← hw2]
     exact ⟨rfl,rfl,rfl,by simp [World.setRow],fun k _ hn=>setRow_other _ _ _ _ (by simpa using hn)⟩
    have hkw:Kept [g] wr w2:=(Kept.ofBelow [g] hB1).then hk2
    have hgp:g≠p:=fun e=>by have:=lt_of_block HJP.out.hp;omega
    have hgb:g≠b:=fun e=>by have:=HJP.out.kp.lt b (by simp [fm]);omega
    have hp2:w2.heap[p]?=some (.cells (cur.setIfInBounds o (.map (some b))) T (0,0)):=(hkw.block p (lt_of_block HJP.out.hp) (by simp;exact fun e=>hgp e.symm)).trans HJP.out.hp
    have hkp2:KpIn w2 (.map (some b)) (n+i) (putK K a (bs.take i)):=HJP.out.kp.kept hkw (by simp [fm];exact fun e=>hgb e.symm)
    have HP2:=Lib.hid hp2
    have HKP2:=Lib.hid hkp2
    have HG2:=Lib.hid hg2
    have HKW:=Lib.hid hkw
    have HGN:Hid (w.heap.size≤g):=by have:=HJP.out.kept.size;show _≤_;omega
    clear hcp hst hz hlk hsl hc0 hw2 hw1 hg hg1 hg2 hk2 hkw hgp hgb hp2 hkp2 hC2e hcs hbb hB1
    refine still_tail 6 (by kernel_rfl) (by kernel_rfl) ?_
    intro wz hwz
    have hwz2:wz=w2.drewN 1:=hwz
    have hc0:wz.cell? ⟨p,o,none⟩=some (.map (some b)):=by rw [hwz2];exact cell_slot HP2.out (slot_set HO.out)
    have HLD:Hid ((Instr.loadAt 122 (.pointer (some ⟨g,0,none⟩))).run Try.prog wz=.ok (.agg (bv L2).toArray) wz):=by rw [hwz2];exact load64 _ g _ HG2.out (by simp [bv,hL2l])
    have hwk:IntKind.i64.wrap (kq:Int)=(kq:Int):=IntWalk.i64_in _ (by omega)
    have HKZ:Hid (KpIn wz (.map (some b)) (n+i) (putK K a (bs.take i))):=by rw [hwz2];exact HKP2.out
    have HPZ:Hid (wz.heap[p]?=some (.cells (cur.setIfInBounds o (.map (some b))) T (0,0))):=by rw [hwz2];exact HP2.out
    have HKWZ:Hid (Kept [g] wr wz):=by rw [hwz2];exact HKW.out.drewN 1
    clear hwz hwz2
    obtain ⟨D2,hD2⟩:∃ x,(bv L2).toArray=x:=⟨_,rfl⟩
    rw [hD2] at HLD
    simp only [List.take_succ_cons,List.take_zero,List.drop_succ_cons,List.drop_zero]
    iterate 5 still_step
    refine wpStill_step (fun K hK=>?_)
    refine (if_pos (by rfl)).mpr ?_
    show Oper.stillUpon _ _ _ _ _ ((do let v ← Instr.loadAt 122 (.pointer (some ⟨g,0,none⟩));pure (Next.value v):Sem Next).run _ wz)
    rw [Sem.run_bind,HLD.out]
    refine ⟨rfl,hK _ ?_⟩
    clear hK K
    go_simp
    refine wpStill_nil ?_
    obtain ⟨w4,hmu,hkp4,hgr4⟩:=HKZ.out.put (by omega) kq (by omega) L2 hL2l hL2t
    rw [hD2] at hmu
    go_upto_region 6 with (fail)
    have hwx:IntKind.i64.wrap ((X:Int)+(m:Int))=((X+m:Nat):Int):=by rw [IntWalk.i64_in _ (by omega)];omega
    have hmcI:(m:Int)≤(c':Int):=by omega
    have hMcI:(M:Int)≤(c':Int):=by omega
    go_quiet (fail)
    go_wp2_with fail
    go_roundw
    case rel =>
     refine ⟨i+m,M - m,_,c' - m,by omega,by omega,by rw [← hX];congr 1;omega,rfl,⟨?_,?_,?_,?_⟩,?_,?_⟩
     ·have h1:w4.heap[p]?=wz.heap[p]?:=hgr4.block p (lt_of_block HPZ.out) (by
       intro e
       simp only [Option.some.injEq] at e
       obtain ⟨es,cl,hb⟩:=HKZ.out.isMap b (by simp [fm])
       rw [← e,HPZ.out] at hb
       cases hb)
      exact h1.trans HPZ.out
     ·have h1:(fun x=>if x / 64=kq then L2.getD (x % 64) 0 else putK K a (bs.take i) x)=putK K a (bs.take (i+m)):=by
       rw [← putK_step K a i m bs (by omega),hns,hX,← blkL_put (putK K a (bs.take i)) X ns (by omega),hkq,hr,hL,hnl,hL2]
      rw [h1] at hkp4
      exact (hkp4.mono (by omega)).kept (F:=[]) ⟨rfl,rfl,rfl,Nat.le_refl _,fun _ _ _=>rfl⟩ (by simp)
     ·refine (HJP.out.kept.trans HKWZ.out ?_).trans (F':=[b]) ⟨hgr4.os,hgr4.tape,hgr4.output,hgr4.size,fun k hk hn=>hgr4.block k hk (by simpa using hn)⟩ ?_ |>.drewN nq
      ·intro z hz
       simp only [List.mem_singleton] at hz
       exact .inr (hz ▸ HGN.out)
      ·intro z hz
       simp only [List.mem_singleton] at hz
       subst hz
       exact HJP.out.new.imp (fun h=>List.mem_cons_of_mem _ h) id
     ·exact HJP.out.new
     ·have h1:=HJR.out.tail c' m (by omega) hic
      have e1:tailA (some ⟨bb,oo,none⟩) c' m=(if c'=m then some ⟨bb,oo,none⟩ else some ⟨bb,oo+m,none⟩):=by
       unfold tailA
       simp only [Option.map_some,Addr.add_lit]
      rw [e1] at h1
      have e2:(bv (bs.drop i)).drop m=bv (bs.drop (i+m)):=by simp [bv,List.drop_drop]
      rw [e2] at h1
      exact h1
     ·intro _ z hz
      have h2:=HJA.out hlt _ rfl
      split at hz <;> (cases hz;exact h2)
    case measure=>simp [intOf];omega
   ·have hltI:¬ (0:Int)<(M:Int):=by omega
    obtain rfl:M=0:=by omega
    obtain rfl:i=N:=by omega
    go_wp2_with fail
    go_end0
    refine ⟨rfl,_,HJP.out.hp,?_,HJP.out.kept,?_⟩
    ·have h1:=HJP.out.kp
     rw [List.take_of_length_le (by omega)] at h1
     exact h1
    ·intro k hk
     simp only [fm,List.mem_singleton] at hk
     exact hk ▸ HJP.out.new
end
/-- m bytes of what is kept, from place a. -/
def seqK (K:Nat→Nat) (a m:Nat):List Nat:=(List.range m).map fun i=>K (a+i)
theorem seqK_len (K:Nat→Nat) (a m:Nat):(seqK K a m).length=m:=by simp [seqK]
theorem seqK_get (K:Nat→Nat) (a m i:Nat) (h:i<m):(seqK K a m)[i]?=some (K (a+i)):=by simp [seqK,h]
theorem seqK_app (K:Nat→Nat) (a m n:Nat):seqK K a (m+n)=seqK K a m ++ seqK K (a+m) n:=by
 unfold seqK
 rw [List.range_add,List.map_append]
 congr 1
 rw [List.map_map]
 exact List.map_congr_left fun i _=>by simp [Nat.add_assoc]
theorem seqK_congr {K K':Nat→Nat} {a m:Nat} (h:∀ i,i<m→K (a+i)=K' (a+i)):seqK K a m=seqK K' a m:=by
 unfold seqK
 exact List.map_congr_left fun i hi=>h i (by simpa using hi)
theorem seqK_blk (K:Nat→Nat) (x m:Nat) (h:x % 64+m≤64):((blkL K (x / 64)).drop (x % 64)).take m=seqK K x m:=by
 apply List.ext_getElem?
 intro i
 by_cases hi:i<m
 ·rw [List.getElem?_take,if_pos hi,List.getElem?_drop,blkL_get K _ _ (by omega),seqK_get K x m i hi,show 64 * (x / 64)+(x % 64+i)=x+i by omega]
 ·rw [List.getElem?_eq_none (by rw [List.length_take];omega),List.getElem?_eq_none (by rw [seqK_len];omega)]
theorem own_cells {w:World} {base e size n:Nat} {v:Value} {xs:List Value} (h:w.ownsRow base e size v n xs):∀ k ∈ fp v,∃ cur t,w.heap[k]?=some (.cells cur t (0,0)):=fun k hk=>by
 rcases h.2 with ⟨rfl,_⟩ | ⟨g,cap,cur,rfl,_,hg,_⟩
 ·simp [fp] at hk
 ·simp only [fp,List.mem_singleton] at hk
  exact ⟨cur,e,hk ▸ hg⟩
theorem own_not_map {w:World} {base e size n m:Nat} {u v:Value} {K:Nat→Nat} {xs:List Value} (h:w.ownsRow base e size u n xs) (hk:KpIn w v m K):∀ k ∈ fm v,k ∉ fp u:=fun k hm hu=>by
 obtain ⟨es,cl,hb⟩:=hk.isMap _ hm
 obtain ⟨cur,t,hb'⟩:=own_cells h k hu
 rw [hb] at hb';cases hb'
structure TakeJ (w wr:World) (v:Value) (n:Nat) (K:Nat→Nat) (a i:Nat) (u:Value):Prop where
 own:wr.ownsRow w.heap.size 5 1 u i (bv (seqK K a i))
 kp:∃ K',KpIn wr v n K'∧∀ x,a+i≤x→K' x=K x
 kept:Kept (fm v) w wr
section
variable {w:World} {v:Value} {n:Nat} {K:Nat→Nat}
theorem take_kp (hK:KpIn w v n K) (a m:Nat) (ham:a+m≤4611686018427387903) (hm:m≤1048576) :
  Calls Try.prog 81 #[v,.int .i64 (a:Int),.int .i64 ((a+m:Nat):Int)] w fun e w'=>∃ A c,e=.returned (.slice A m c)∧TakeJ w w' v n K a m (.slice A m c):=by
 have HK:=Lib.hid hK
 clear hK
 obtain ⟨i0,hi,hz0,hz1,hz2⟩:=info_parts infoB
 have HI:=Lib.hid (And.intro hi (And.intro hz0 (And.intro hz1 hz2)))
 have hmk:=fun W=>run_make (P:=Try.prog) W 30 5 i0 (.int .u8 0) Try.underlying30 hi hz0 .i64 .i64 0 (m:Int) (by omega) (by omega) (by rw [hz2];omega) (by omega)
 simp only [hz1,Nat.mul_one,Int.toNat_natCast,Int.toNat_zero] at hmk
 have hw1:IntKind.i64.wrap (((a+m:Nat):Int) - (a:Int))=(m:Int):=by rw [IntWalk.i64_in _ (by omega)];omega
 have hmI:(m:Int)≤1048576:=by omega
 clear hi hz0 hz1 hz2
 obtain ⟨zc,hzc⟩:∃ x,madeCells (Value.int .u8 0).cells m=x:=⟨_,rfl⟩
 have hzs:zc.size=m:=by rw [← hzc];simp [size_madeCells]
 rw [hzc] at hmk
 clear hzc
 obtain ⟨E,hE⟩:∃ E,a+m=E:=⟨_,rfl⟩
 rw [hE] at ham hw1 ⊢
 go_enter Try.func81,Try.ntmps81
 go_wp2_with fail
 go_loopw [1,7] (fun v1 v7 wr=>∃ (i M:Nat) (A':Option Addr) (c':Nat),i+M=m∧v1=.int .i64 ((a+i:Nat):Int)∧v7=.slice A' i c'∧Hid (TakeJ w wr v n K a i (.slice A' i c'))) (fun v1 _ _=>a+m - (intOf v1).toNat)
 case atStart =>
  refine ⟨0,m,_,m,by omega,rfl,rfl,⟨?_,⟨K,HK.out.kept (Kept.ofBelow [] ((Below.refl _ _).alloc (Nat.le_refl _) _)) (by simp),fun x _=>rfl⟩,Kept.ofBelow _ ((Below.refl _ _).alloc (Nat.le_refl _) _)⟩⟩
  exact World.ownsRow_made w zc m (Nat.le_refl _) (by unfold maxLen;omega) (by rw [hzs,Nat.mul_one])
 case round =>
  clear hmk hzs
  obtain ⟨i,M,A',c',hiM,rfl,rfl,HJ⟩:=hrel
  obtain ⟨X,hX⟩:∃ X,a+i=X:=⟨_,rfl⟩
  rw [hX]
  by_cases hlt:0<M
  ·have hltI:(X:Int)<(E:Int):=by omega
   obtain ⟨kq,hkq⟩:∃ k,X / 64=k:=⟨_,rfl⟩
   obtain ⟨r,hr⟩:∃ k,X % 64=k:=⟨_,rfl⟩
   have htd:Int.tdiv (X:Int) 64=(kq:Int):=by rw [← hkq];rw [Int.tdiv_eq_ediv_of_nonneg (by omega)];omega
   have htm:Int.tmod (X:Int) 64=(r:Int):=by rw [← hr];rw [Int.tmod_eq_emod_of_nonneg (by omega)];omega
   have hXI:(X:Int)≤4611686018427387903:=by omega
   have hrI:(r:Int)<64:=by omega
   have hkI:(kq:Int)≤4611686018427387903:=by omega
   have hwk:IntKind.i64.wrap (kq:Int)=(kq:Int):=IntWalk.i64_in _ (by omega)
   obtain ⟨K',hkp,hKe⟩:=HJ.out.kp
   have hlk:=hkp.look kq (by omega)
   obtain ⟨L,hL⟩:∃ L,blkL K' kq=L:=⟨_,rfl⟩
   rw [hL] at hlk
   have hLl:L.length=64:=by rw [← hL,blkL_len]
   have hz:=zeroV
   obtain ⟨Z,hZ⟩:∃ x,(bv zero64).toArray=x:=⟨_,rfl⟩
   obtain ⟨C,hC⟩:∃ x,(bv L).toArray=x:=⟨_,rfl⟩
   have hCs:C.size=64:=by rw [← hC];simp [bv,hLl]
   have hst:=fun W:World=>run_storeCells_new (P:=Try.prog) W 122 (bv zero64).toArray (bv L).toArray (by rw [size64];simp [bv,hLl]) (by simp [bv,hLl,zero64_len]) (bv_one _)
   rw [hZ,hC] at hst
   rw [hZ] at hz
   rw [hC] at hlk
   clear hZ
   obtain ⟨mm,hmm⟩:∃ x,min (64 - r) M=x:=⟨_,rfl⟩
   have hmr:mm≤M∧r+mm≤64∧0<mm:=by omega
   have hw2:IntKind.i64.wrap (64 - (r:Int))=((64 - r:Nat):Int):=by rw [IntWalk.i64_in _ (by omega)];omega
   have hw3:IntKind.i64.wrap ((E:Int) - (X:Int))=(M:Int):=by rw [IntWalk.i64_in _ (by omega)];omega
   have hmin:min (((64 - r:Nat):Int)) (M:Int)=(mm:Int):=by omega
   go_upto_region 5 with (fail)
   obtain ⟨w1,hw1'⟩:∃ x,wr.alloc (.cells C 122)=x:=⟨_,rfl⟩
   obtain ⟨g,hg⟩:∃ x,wr.heap.size=x:=⟨_,rfl⟩
   have hg1:w1.heap[g]?=some (.cells C 122 (0,0)):=by rw [← hw1',← hg];exact heap_alloc_new wr _
   have hB1:Below wr.heap.size wr w1:=by rw [← hw1'];exact (Below.refl _ _).alloc (Nat.le_refl _) _
   rw [hw1',hg]
   have hsl:=slice64 g r (by omega)
   have hml:(mm:Int)≤((64 - r:Nat):Int):=by omega
   have hml2:mm≤64 - r:=by omega
   obtain ⟨ns,hns⟩:∃ l:List Nat,(L.drop r).take mm=l:=⟨_,rfl⟩
   have hnl:ns.length=mm:=by rw [← hns,List.length_take,List.length_drop];omega
   have hCi:C.toList=bv L:=by rw [← hC]
   have HRN:Hid (Rd w1 w1.heap.size (some ⟨g,r,none⟩) (mm * 1) (bv ns)):=by
    have h1:=rd_block w1 g C 122 w1.heap.size hg1 (Nat.le_refl _)
    rw [hCs,hCi] at h1
    have h2:=(h1.tail' r (by omega)).head mm (by omega)
    rw [Nat.mul_one,← hns]
    have e:bv ((L.drop r).take mm)=((bv L).drop r).take mm:=by simp [bv]
    rw [e,Nat.zero_add] at *
    exact h2
   have HOW:Hid (w1.ownsRow w.heap.size 5 1 (.slice A' i c') i (bv (seqK K a i))):=by rw [← hw1'];exact HJ.out.own.alloc _
   have HKP1:=Lib.hid (hkp.kept (Kept.ofBelow [] hB1) (by simp))
   have HKE:=Lib.hid hKe
   have HB1:=Lib.hid hB1
   have HG1:Hid (wr.heap.size≤g):=by rw [← hg];exact Nat.le_refl _
   have HSZ:Hid (i+mm≤maxLen∧(i+mm) * 1≤140737488355328∧w.heap.size≤w1.heap.size):=⟨by unfold maxLen;omega,by omega,Nat.le_trans HJ.out.kept.size hB1.size⟩
   clear hst hz hlk hw1' hg hg1 hB1 hKe hkp
   go_wp2_with (at_builtin;refine wpList_app_at _ rfl (.tmp 28) (.tmp 33) 30 rfl w.heap.size 5 i0 (.int .u8 0) 1 1 Try.underlying30 HI.out.1 HI.out.2.1 HI.out.2.2.1 HI.out.2.2.2 rfl (by decide) (.slice A' i c') i (bv (seqK K a i)) rfl HOW.out w1.heap.size (some ⟨g,r,none⟩) mm (64 - r) (bv ns) rfl HRN.out (ones_bv _) HSZ.out.1 HSZ.out.2.1 HSZ.out.2.2 ?_)
   intro v5 w5 ho5 hg5 hn5
   obtain ⟨A5,c5,e5,_⟩:=own_form ho5
   subst e5
   have hkf:Kept (fp (.slice A' i c')) w1 w5:=⟨hg5.os,hg5.tape,hg5.output,hg5.size,fun k hk hm=>hg5.block k hk fun e=>hm (fp_own.2 e.symm)⟩
   have hdis:=own_not_map HOW.out HKP1.out
   have hkp5:=HKP1.out.kept hkf hdis
   have hwx:IntKind.i64.wrap ((X:Int)+(mm:Int))=((X+mm:Nat):Int):=by rw [IntWalk.i64_in _ (by omega)];omega
   obtain ⟨X',hX'⟩:∃ x,X+mm=x:=⟨_,rfl⟩
   rw [hX'] at hwx
   obtain ⟨kd,hkd⟩:∃ x,X' / 64=x:=⟨_,rfl⟩
   have htd2:Int.tdiv (X':Int) 64=(kd:Int):=by rw [← hkd];rw [Int.tdiv_eq_ediv_of_nonneg (by omega)];omega
   have hwk2:IntKind.i64.wrap (kd:Int)=(kd:Int):=IntWalk.i64_in _ (by omega)
   have hwd:IntKind.i64.wrap ((kd:Int) - 1)=(kd:Int) - 1:=IntWalk.i64_in _ (by omega)
   obtain ⟨w6,hdel0,hkp6,hk6⟩:=hkp5.del ((kd:Int) - 1) ⟨by omega,by omega⟩ 0
   have hdel:∀ ty,(Builtin.delete_ #[75,3] ty #[v,.int .i64 ((kd:Int) - 1)]).run Try.prog w5=.ok (.tuple #[]) w6:=fun _=>hdel0
   have HK6:=Lib.hid hk6
   have HKP6:=Lib.hid hkp6
   have HO5:=Lib.hid ho5
   have HN5:=Lib.hid hn5
   have HKF:=Lib.hid hkf
   have HD6:Hid (∀ k ∈ fp (.slice A5 (i+mm) c5),k ∉ fm v):=fun k hk hm=>by
    obtain ⟨es,cl,hb⟩:=hkp5.isMap _ hm
    obtain ⟨cur',_,hb'⟩:=own_cells ho5 k hk
    rw [hb] at hb';cases hb'
   clear hdel0 hkp6 hk6 ho5 hn5 hkf hg5 hdis hkp5
   go_wp2_with fail
   go_roundw
   case rel =>
    refine ⟨i+mm,M - mm,A5,c5,by omega,by rw [← hX',← hX];congr 1;omega,rfl,⟨?_,?_,?_⟩⟩
    ·have e:seqK K a (i+mm)=seqK K a i ++ ns:=by
      rw [seqK_app,hX,← hns,← hr,← hL,← hkq,seqK_blk K' X mm (by omega)]
      exact congrArg _ (seqK_congr fun z _=>(HKE.out _ (by omega)).symm)
     rw [e]
     have e2:bv (seqK K a i ++ ns)=bv (seqK K a i) ++ bv ns:=by simp [bv]
     rw [e2]
     exact own_kept HO5.out HK6.out HD6.out
    ·refine ⟨_,HKP6.out,fun x hx=>?_⟩
     have:((x / 64:Nat):Int)≠(kd:Int) - 1:=by omega
     rw [if_neg this]
     exact HKE.out x (by omega)
    ·refine (HJ.out.kept.trans (Kept.ofBelow [] HB1.out) (by simp)).trans HKF.out (fun k hk=>?_) |>.then HK6.out
     exact .inr (HJ.out.own.lt k (fp_own.1 hk)).1
   case measure=>simp [intOf];omega
  ·have hltI:¬ (X:Int)<(E:Int):=by omega
   go_wp2_with fail
   go_ret
   obtain rfl:M=0:=by omega
   obtain rfl:i=m:=by omega
   exact ⟨_,_,rfl,HJ.out⟩
end
end Go.Proofs.Ytoahkffdoaphlaa.Re
