/- Joined texts. Conditions: as each theorem lists them. -/
import Derived.Test.YtoahkffdoaphlaaJF2
set_option linter.unusedSimpArgs false
set_option linter.unusedVariables false
set_option maxRecDepth 100000
set_option maxHeartbeats 80000000
namespace Go.Proofs.Ytoahkffdoaphlaa
open Go Go.RowKit
theorem infoI2:(Try.prog.info? 88).map (fun i=>(i.zero,i.size,i.bytes))=some (some (.agg #[.int .i64 0,.int .i64 0]),2,16):=by kernel_rfl
/-- Runs of an Ack, right so far: first and last, one behind the other. -/
def SpsOk (es:List Int) (m:Nat):Prop :=
 es.length=m * 2∧∀ k,k<m→0≤es.getD (2 * k) 0∧es.getD (2 * k) 0≤es.getD (2 * k+1) 0∧es.getD (2 * k+1) 0≤4611686018427387903∧(0<k→es.getD (2 * k+1) 0+2≤es.getD (2 * (k - 1)) 0)
theorem getD_app_left (l r:List Int) (j:Nat) (h:j<l.length):(l ++ r).getD j 0=l.getD j 0:=by simp [List.getD,List.getElem?_append_left h]
theorem getD_app_right (l r:List Int) (j:Nat):(l ++ r).getD (l.length+j) 0=r.getD j 0:=by
 simp only [List.getD]
 rw [List.getElem?_append_right (by omega),Nat.add_sub_cancel_left]
theorem SpsOk.snoc {es:List Int} {m:Nat} (h:SpsOk es m) (x y:Int) (h0:0≤x) (hxy:x≤y) (hy:y≤4611686018427387903) (hg:0<m→y+2≤es.getD (2 * (m - 1)) 0):SpsOk (es ++ [x,y]) (m+1):=by
 obtain ⟨hl,hk⟩:=h
 refine ⟨by simp [hl];omega,fun k hkm=>?_⟩
 rcases Nat.lt_or_ge k m with h1 | h1
 ·rw [getD_app_left _ _ _ (by omega),getD_app_left _ _ _ (by omega),getD_app_left _ _ _ (by omega)]
  exact hk k h1
 ·obtain rfl:k=m:=by omega
  have e0:=getD_app_right es [x,y] 0
  have e1:=getD_app_right es [x,y] 1
  rw [show es.length+0=2 * k by omega] at e0
  rw [show es.length+1=2 * k+1 by omega] at e1
  rw [e0,e1]
  refine ⟨h0,hxy,hy,fun hm=>?_⟩
  rw [getD_app_left _ _ _ (by omega)]
  exact hg hm
/-- What Runs has made behind k numbers. -/
def RunsW (w wr:World) (k:Nat) (low:Int) (v:Value):Prop :=
 ∃ es,SpsOk es k∧1099511627776 - 340 * (k:Int)≤low∧low≤1099511627776∧(0<k→es.getD (2 * (k - 1)) 0=low)∧wr.ownsRow w.heap.size 88 2 v k (ints es)∧Below w.heap.size w wr
theorem low_snoc (es:List Int) (k:Nat) (hl:es.length=k * 2) (x y:Int):(es ++ [x,y]).getD (2 * (k+1 - 1)) 0=x:=by
 have e0:=getD_app_right es [x,y] 0
 rw [show es.length+0=2 * (k+1 - 1) by omega] at e0
 rw [e0];rfl
def RunsP (w:World) (e:Ending) (w':World):Prop :=
 ∃ A m c es,e=.returned (.slice A m c)∧1≤m∧m≤8∧SpsOk es m∧w'.ownsRow w.heap.size 88 2 (.slice A m c) m (ints es)∧Below w.heap.size w w'
/-- A frame that is right. -/
structure OkF (f:Fr):Prop where
 k:1≤f.k∧f.k≤12
 num:wid f.id≠0∧wid f.off≠0∧wid f.a≠0∧wid f.b≠0
 bo:f.b≤f.off
 data:f.data.length≤120∧∀ c ∈ f.data,c<256
 room:f.off+f.data.length≤4611686018427387903
 dg:f.k=9→f.data≠[]
 zid:f.k=3∨f.k=4∨f.k=5∨f.k=7∨f.k=10∨f.k=11∨f.id=0
 za:f.k=4∨f.k=5∨f.k=7∨f.k=6∨f.k=12∨f.k=8∨f.a=0
 zoff:f.k=3∨f.k=4∨f.off=0
 zb:f.k=4∨f.b=0
 zfin:f.k=3∨f.k=8∨f.fin=false
 zdata:f.k=3∨f.k=9∨f.data=[]
 zsp:(f.k=2∧∃ m,1≤m∧m≤8∧SpsOk f.spans m)∨(f.k≠2∧f.spans=[])
/-- A value that reads as a frame; its bytes and its spans lie in rows of their own, from block lo on. -/
def FrOwn (w:World) (lo:Nat) (f:Fr) (v:Value):Prop :=
 ∃ A n c A2 n2 c2,v=frA f A n c A2 n2 c2∧f.data.length=n∧f.spans.length=n2 * 2∧w.ownsRow lo 5 1 (.slice A n c) n (bv f.data)∧w.ownsRow lo 88 2 (.slice A2 n2 c2) n2 (ints f.spans)
def FrameP (w:World) (e:Ending) (w':World):Prop:=∃ f v,e=.returned v∧OkF f∧FrOwn w' w.heap.size f v∧Below w.heap.size w w'
theorem wid0:wid 0≠0:=by decide
theorem wid_in {n:Int} (h:0≤n) (h2:n≤4611686018427387903):wid n≠0:=by unfold wid;(repeat' split) <;> omega
theorem okF_mk (k id off a b:Int) (fin:Bool) (data:List Nat) (spans:List Int) (hk:1≤k∧k≤12) (hn:wid id≠0∧wid off≠0∧wid a≠0∧wid b≠0) (bo:b≤off) (hd:data.length≤120∧∀ c ∈ data,c<256) (room:off+data.length≤4611686018427387903)
  (dg:k=9→data≠[]) (zid:k=3∨k=4∨k=5∨k=7∨k=10∨k=11∨id=0) (za:k=4∨k=5∨k=7∨k=6∨k=12∨k=8∨a=0) (zoff:k=3∨k=4∨off=0) (zb:k=4∨b=0) (zfin:k=3∨k=8∨fin=false) (zdata:k=3∨k=9∨data=[])
  (zsp:(k=2∧∃ m,1≤m∧m≤8∧SpsOk spans m)∨(k≠2∧spans=[])):OkF ⟨k,id,off,a,b,0,fin,data,spans⟩:=⟨hk,hn,bo,hd,room,dg,zid,za,zoff,zb,zfin,zdata,zsp⟩
def frC (f:Fr) (vd vs:Value):List Value:=[.int .i64 f.k,.int .i64 f.id,.int .i64 f.off,.int .i64 f.a,.int .i64 f.b,.int .i64 f.note,.bool f.fin,vd,vs]
/-- Nine cells that read as a frame; its bytes and spans lie in blocks of their own kinds. -/
def FrC (w:World) (f:Fr) (cs:List Value):Prop :=
 ∃ A n c A2 n2 c2,cs=frC f (.slice A n c) (.slice A2 n2 c2)∧f.data.length=n∧f.spans.length=n2 * 2∧w.ownsRow 0 5 1 (.slice A n c) n (bv f.data)∧w.ownsRow 0 88 2 (.slice A2 n2 c2) n2 (ints f.spans)
theorem FrOwn.cells {w:World} {lo:Nat} {f:Fr} {v:Value} (h:FrOwn w lo f v):∃ cs,v=.agg cs.toArray∧FrC w f cs:=by
 obtain ⟨A,n,c,A2,n2,c2,rfl,h1,h2,h3,h4⟩:=h
 exact ⟨_,rfl,A,n,c,A2,n2,c2,rfl,h1,h2,own_base h3 (Nat.zero_le _),own_base h4 (Nat.zero_le _)⟩
theorem FrC.len {w:World} {f:Fr} {cs:List Value} (h:FrC w f cs):cs.length=9:=by
 obtain ⟨A,n,c,A2,n2,c2,rfl,_⟩:=h;rfl
theorem FrC.ones {w:World} {f:Fr} {cs:List Value} (h:FrC w f cs):ones cs:=fun u hu=>by
 obtain ⟨A,n,c,A2,n2,c2,rfl,_⟩:=h
 simp only [frC,List.mem_cons,List.not_mem_nil,or_false] at hu
 rcases hu with rfl | rfl | rfl | rfl | rfl | rfl | rfl | rfl | rfl <;> rfl
theorem FrC.below {w w':World} {f:Fr} {cs:List Value} (h:FrC w f cs) (hb:Below w.heap.size w w'):FrC w' f cs:=by
 obtain ⟨A,n,c,A2,n2,c2,e,h1,h2,h3,h4⟩:=h
 exact ⟨A,n,c,A2,n2,c2,e,h1,h2,own_below h3 hb,own_below h4 hb⟩
/-- A row that is another type's is not this one's block. -/
theorem own_other {w:World} {base e e' size n g:Nat} {v:Value} {xs:List Value} (h:w.ownsRow base e size v n xs) {cur:Array Value} {fr:Nat × Nat} (hg:w.heap[g]?=some (.cells cur e' fr)) (hne:e≠e'):v.ownBlock≠some g:=fun hv=>by
 rcases h.2 with ⟨rfl,_⟩ | ⟨g',cap,cur',rfl,_,hh,_⟩
 ·cases hv
 ·simp only [Value.ownBlock,Option.some.injEq] at hv
  subst hv
  rw [hg] at hh
  simp only [Option.some.injEq,Obj.cells.injEq] at hh
  exact hne hh.2.1.symm
/-- The row of frames grows: those in it stay. -/
theorem FrC.grown {w w':World} {f:Fr} {cs:List Value} (h:FrC w f cs) {row:Option Nat} (hg:w.grownBy w' row) (hr:∀ g,row=some g→∃ cur fr,w.heap[g]?=some (.cells cur 54 fr)):FrC w' f cs:=by
 obtain ⟨A,n,c,A2,n2,c2,e,h1,h2,h3,h4⟩:=h
 have key:∀ {t size m:Nat} {v:Value} {xs:List Value},w.ownsRow 0 t size v m xs→t≠54→w'.ownsRow 0 t size v m xs:=fun ho hne=>by
  refine ho.kept hg ?_
  cases row with
  | none=>exact Classical.em _
  | some g =>
    obtain ⟨cur,fr,hh⟩:=hr g rfl
    have:=own_other ho hh hne
    first | exact .inr (Ne.symm this) | exact .inr this | exact .inr (fun e=>this e) | exact .inr (fun e=>this e.symm)
 exact ⟨A,n,c,A2,n2,c2,e,h1,h2,key h3 (by decide),key h4 (by decide)⟩
def FrsC (w:World):List Fr→List Value→Prop
 | [],cs=>cs=[]
 | f :: fs,cs=>∃ c1 c2,cs=c1 ++ c2∧FrC w f c1∧FrsC w fs c2
theorem FrsC.map {w w':World} (hw:∀ f cs,FrC w f cs→FrC w' f cs):∀ {fs:List Fr} {cs:List Value},FrsC w fs cs→FrsC w' fs cs
 | [],_,h=>h
 | _ :: _,_,⟨c1,c2,e,h1,h2⟩=>⟨c1,c2,e,hw _ _ h1,h2.map hw⟩
theorem FrsC.below {w w':World} {fs:List Fr} {cs:List Value} (h:FrsC w fs cs) (hb:Below w.heap.size w w'):FrsC w' fs cs:=h.map fun _ _ h=>h.below hb
theorem FrsC.len {w:World}:∀ {fs:List Fr} {cs:List Value},FrsC w fs cs→cs.length=fs.length * 9
 | [],_,h=>by cases h;rfl
 | f :: fs,_,⟨c1,c2,e,h1,h2⟩=>by rw [e,List.length_append,h1.len,h2.len,List.length_cons];omega
theorem FrsC.ones {w:World}:∀ {fs:List Fr} {cs:List Value},FrsC w fs cs→ones cs
 | [],_,h=>by cases h;intro u hu;cases hu
 | f :: fs,_,⟨c1,c2,e,h1,h2⟩=>fun u hu=>by
   rw [e] at hu
   rcases List.mem_append.1 hu with h | h
   ·exact h1.ones u h
   ·exact h2.ones u h
theorem FrsC.app {w:World}:∀ {fs gs:List Fr} {cs ds:List Value},FrsC w fs cs→FrsC w gs ds→FrsC w (fs ++ gs) (cs ++ ds)
 | [],_,_,_,h,k=>by cases h;exact k
 | f :: fs,_,_,_,⟨c1,c2,e,h1,h2⟩,k=>⟨c1,c2 ++ _,by rw [e,List.append_assoc],h1,h2.app k⟩
theorem FrsC.one {w:World} {f:Fr} {cs:List Value} (h:FrC w f cs):FrsC w [f] cs:=⟨cs,[],by simp,h,rfl⟩
/-- The k-th of them: its nine cells. -/
theorem FrsC.get {w:World}:∀ {fs:List Fr} {cs:List Value} (k:Nat) (f:Fr),FrsC w fs cs→fs[k]?=some f→∃ c,FrC w f c∧∀ j,j<9→cs[k * 9+j]?=c[j]?
 | [],_,k,f,h,hf=>by simp at hf
 | g :: fs,_,0,f,⟨c1,c2,e,h1,h2⟩,hf=>by
   simp only [List.getElem?_cons_zero,Option.some.injEq] at hf
   subst hf
   exact ⟨c1,h1,fun j hj=>by rw [e,List.getElem?_append_left (by rw [h1.len];omega),Nat.zero_mul,Nat.zero_add]⟩
 | g :: fs,_,k+1,f,⟨c1,c2,e,h1,h2⟩,hf=>by
   obtain ⟨c,hc,hj⟩:=FrsC.get k f h2 (by simpa using hf)
   refine ⟨c,hc,fun j hj9=>?_⟩
   rw [e,List.getElem?_append_right (by rw [h1.len];omega),h1.len,← hj j hj9]
   congr 1;omega
theorem FrsC.take {w:World}:∀ {fs:List Fr} {cs:List Value} (k:Nat),FrsC w fs cs→FrsC w (fs.take k) (cs.take (k * 9))
 | [],_,k,h=>by cases h;simp [FrsC]
 | g :: fs,_,0,h=>by simp [FrsC]
 | g :: fs,_,k+1,⟨c1,c2,e,h1,h2⟩=>by
   refine ⟨c1,c2.take (k * 9),?_,h1,h2.take k⟩
   rw [e,List.take_append,h1.len,List.take_of_length_le (by rw [h1.len];omega)]
   congr 2;omega
theorem FrsC.drop {w:World}:∀ {fs:List Fr} {cs:List Value} (k:Nat),FrsC w fs cs→FrsC w (fs.drop k) (cs.drop (k * 9))
 | [],_,k,h=>by cases h;simp [FrsC]
 | g :: fs,_,0,h=>by simpa using h
 | g :: fs,_,k+1,⟨c1,c2,e,h1,h2⟩=>by
   have e1:c1.drop ((k+1) * 9)=[]:=List.drop_eq_nil_of_le (by rw [h1.len];omega)
   have e2:(c1 ++ c2).drop ((k+1) * 9)=c2.drop (k * 9):=by
    rw [List.drop_append,e1,List.nil_append,h1.len]
    congr 1;omega
   rw [e,e2]
   exact h2.drop k
/-- A row of frames of the call's own. -/
def FrsOwn (w:World) (base:Nat) (v:Value) (fs:List Fr):Prop:=∃ cs,w.ownsRow base 54 9 v fs.length cs∧FrsC w fs cs
theorem own_cells {w:World} {base e size n:Nat} {v:Value} {xs:List Value} (h:w.ownsRow base e size v n xs):∀ g,v.ownBlock=some g→∃ cur fr,w.heap[g]?=some (.cells cur e fr):=fun g hg=>by
 rcases h.2 with ⟨rfl,_⟩ | ⟨g',cap,cur',rfl,_,hh,_⟩
 ·cases hg
 ·simp only [Value.ownBlock,Option.some.injEq] at hg
  subst hg
  exact ⟨_,_,hh⟩
theorem FrsOwn.below {w w':World} {base:Nat} {v:Value} {fs:List Fr} (h:FrsOwn w base v fs) (hb:Below w.heap.size w w'):FrsOwn w' base v fs:=by
 obtain ⟨cs,h1,h2⟩:=h
 exact ⟨cs,own_below h1 hb,h2.below hb⟩
theorem FrsOwn.nil (w:World) (base:Nat):FrsOwn w base (.slice none 0 0) []:=⟨[],own_nil _ _ _ _,rfl⟩
/-- A raw frame, as it lies in an argument. -/
structure Rw where
 k:Int
 id:Int
 off:Int
 a:Int
 b:Int
 bend:Int
 fin:Bool
 A1:Option Addr
 bs:List Nat
 c1:Nat
 A2:Option Addr
 l:List Int
 c2:Nat
structure RawOk (W:World) (r:Rw):Prop where
 id:-9223372036854775808≤r.id∧r.id≤9223372036854775807
 off:-9223372036854775808≤r.off∧r.off≤9223372036854775807
 a:-9223372036854775808≤r.a∧r.a≤9223372036854775807
 b:-9223372036854775808≤r.b∧r.b≤9223372036854775807
 bs:Rd W W.heap.size r.A1 r.bs.length (bv r.bs)
 bc:r.bs.length≤r.c1
 bm:r.bs.length≤140737488355328
 blt:∀ x ∈ r.bs,x<256
 l:Rd W W.heap.size r.A2 r.l.length (ints r.l)
 lc:r.l.length≤r.c2
 lm:r.l.length≤17592186044416
 llt:∀ n ∈ r.l,-9223372036854775808≤n∧n≤9223372036854775807
def rwC (r:Rw):List Value:=[.int .i64 r.k,.int .i64 r.id,.int .i64 r.off,.int .i64 r.a,.int .i64 r.b,.int .i64 r.bend,.bool r.fin,.slice r.A1 r.bs.length r.c1,.slice r.A2 r.l.length r.c2]
/-- A list of raw frames, as an argument. -/
structure IsRaws (W:World) (A:Option Addr) (cap n:Nat) (rs:List Rw):Prop where
 len:rs.length=n
 cap:n≤cap
 big:n≤140737488355328
 rd:0<n→∃ b off,A=some ⟨b,off,none⟩∧b<W.heap.size∧∀ (k:Nat) (r:Rw),rs[k]?=some r→RawOk W r∧∀ (j:Nat) (u:Value),(rwC r)[j]?=some u→W.cell? ⟨b,off+k * 9+j,none⟩=some u
theorem infoFr:(Try.prog.info? 54).map (fun i=>(i.zero,i.size,i.bytes))=some (some (.agg #[.int .i64 0,.int .i64 0,.int .i64 0,.int .i64 0,.int .i64 0,.int .i64 0,.bool false,.slice none 0 0,.slice none 0 0]),9,104):=by kernel_rfl
/-- Behind an append of one frame. -/
theorem FrsOwn.push {w w1:World} {base:Nat} {v v1:Value} {fs:List Fr} {f:Fr} {cells cs:List Value} {o:Obj} (ho:w.ownsRow base 54 9 v fs.length cells) (hf:FrsC w fs cells) (hc:FrC w f cs)
  (h1:w1.ownsRow base 54 9 v1 (fs.length+1) (cells ++ cs)) (hg:(w.alloc o).grownBy w1 v.ownBlock):FrsOwn w1 base v1 (fs ++ [f]):=by
 have hb:Below w.heap.size w (w.alloc o):=(Below.refl _ _).alloc (Nat.le_refl _) _
 have hrow:=own_cells (ho.alloc o)
 exact ⟨cells ++ cs,by rw [List.length_append];exact h1,((hf.below hb).map fun _ _ h=>h.grown hg hrow).app (FrsC.one ((hc.below hb).grown hg hrow))⟩
def RightW (w wr:World) (fs:List Fr) (v:Value):Prop:=(∀ f ∈ fs,OkF f)∧FrsOwn wr w.heap.size v fs∧Below w.heap.size w wr
def RightP (K:Nat) (w:World) (e:Ending) (w':World):Prop:=∃ A n c fs,e=.returned (.slice A n c)∧fs.length=n∧n≤K∧RightW w w' fs (.slice A n c)
end Go.Proofs.Ytoahkffdoaphlaa
