/- Joined texts. Conditions: as each theorem lists them. -/
import Derived.Test.YtccljifichaieaaDoorJ4b
set_option linter.unusedSimpArgs false
set_option linter.unusedVariables false
set_option maxRecDepth 100000
set_option maxHeartbeats 8000000
namespace Go.Proofs.YtccljifichaieaaDoor
open Go Go.RowKit
theorem frame_any (k id off a b:Int) (fin:Bool) (A:Option Addr) (bs:List Nat) (c:Nat) (A2:Option Addr) (l:List Int) (c2:Nat) (w:World) (hid:-9223372036854775808≤id∧id≤9223372036854775807) (hoff:-9223372036854775808≤off∧off≤9223372036854775807)
  (ha:-9223372036854775808≤a∧a≤9223372036854775807) (hb:-9223372036854775808≤b∧b≤9223372036854775807)
  (hbs:Rd w w.heap.size A bs.length (bv bs)) (hbc:bs.length≤c) (hbm:bs.length≤140737488355328) (hblt:∀ x ∈ bs,x<256) (hl:Rd w w.heap.size A2 l.length (ints l)) (hlc:l.length≤c2) (hlm:l.length≤17592186044416) (hllt:∀ n ∈ l,-9223372036854775808≤n∧n≤9223372036854775807) :
  Calls Tryd.prog 20 #[.agg #[.int .i64 k,.int .i64 id,.int .i64 off,.int .i64 a,.int .i64 b,.int .i64 0,.bool fin,.slice A bs.length c,.slice A2 l.length c2]] w (FrameP w):=by
 have h0:=Int.emod_nonneg k (show (12:Int)≠0 by decide)
 have h1:=Int.emod_lt_of_pos k (show (0:Int)<12 by decide)
 have hk:k % 12=0∨k % 12=1∨k % 12=2∨k % 12=3∨k % 12=4∨k % 12=5∨k % 12=6∨k % 12=7∨k % 12=8∨k % 12=9∨k % 12=10∨k % 12=11:=by omega
 rcases hk with h | h | h | h | h | h | h | h | h | h | h | h
 ·exact frame_1 k id off a b fin A bs c A2 l c2 w h
 ·exact frame_2 k id off a b fin A bs c A2 l c2 w h hl hlc hlm hllt
 ·exact frame_3 k id off a b fin A bs c A2 l c2 w h hid.1 hid.2 hoff.1 hoff.2 hbs hbc hbm hblt
 ·exact frame_4 k id off a b fin A bs c A2 l c2 w h ha.1 ha.2 hb.1 hb.2 hid.1 hid.2 hoff.1 hoff.2
 ·exact frame_5 k id off a b fin A bs c A2 l c2 w h ha.1 ha.2 hid.1 hid.2
 ·exact frame_6 k id off a b fin A bs c A2 l c2 w h ha.1 ha.2
 ·exact frame_7 k id off a b fin A bs c A2 l c2 w h ha.1 ha.2 hid.1 hid.2
 ·exact frame_8 k id off a b fin A bs c A2 l c2 w h ha.1 ha.2
 ·exact frame_9 k id off a b fin A bs c A2 l c2 w h hbs hbc hbm hblt
 ·exact frame_10 k id off a b fin A bs c A2 l c2 w h hid.1 hid.2
 ·exact frame_11 k id off a b fin A bs c A2 l c2 w h hid.1 hid.2
 ·exact frame_12 k id off a b fin A bs c A2 l c2 w h ha.1 ha.2
def frC (f:Fr) (vd vs:Value):List Value:=[.int .i64 f.k,.int .i64 f.id,.int .i64 f.off,.int .i64 f.a,.int .i64 f.b,.int .i64 f.note,.bool f.fin,vd,vs]
/-- Nine cells that read as a frame; its bytes and spans lie in blocks of their own kinds. -/
def FrC (w:World) (f:Fr) (cs:List Value):Prop :=
 ∃ A n c A2 n2 c2,cs=frC f (.slice A n c) (.slice A2 n2 c2)∧f.data.length=n∧f.spans.length=n2 * 2∧w.ownsRow 0 5 1 (.slice A n c) n (bv f.data)∧w.ownsRow 0 67 2 (.slice A2 n2 c2) n2 (ints f.spans)
theorem FrOwn.cells {w:World} {lo:Nat} {f:Fr} {v:Value} (h:FrOwn w lo f v):∃ cs,v=.agg cs.toArray∧FrC w f cs:=by
 obtain ⟨A,n,c,A2,n2,c2,rfl,h1,h2,h3,h4⟩:=h
 exact ⟨_,rfl,A,n,c,A2,n2,c2,rfl,h1,h2,own_base h3 (Nat.zero_le _),own_base h4 (Nat.zero_le _)⟩
theorem FrC.len {w:World} {f:Fr} {cs:List Value} (h:FrC w f cs):cs.length=9:=by
 obtain ⟨A,n,c,A2,n2,c2,rfl,_⟩:=h;rfl
theorem FrC.ones {w:World} {f:Fr} {cs:List Value} (h:FrC w f cs):ones cs:=fun u hu=>by
 obtain ⟨A,n,c,A2,n2,c2,rfl,_⟩:=h
 simp only [frC,List.mem_cons,List.not_mem_nil,or_false] at hu
 rcases hu with rfl | rfl | rfl | rfl | rfl | rfl | rfl | rfl | rfl <;> rfl
theorem FrC.below {w w':World} {f:Fr} {cs:List Value} (h:FrC w f cs) (hb:Below w.heap.size w w'):FrC w' f cs:=by
 obtain ⟨A,n,c,A2,n2,c2,e,h1,h2,h3,h4⟩:=h
 exact ⟨A,n,c,A2,n2,c2,e,h1,h2,own_below h3 hb,own_below h4 hb⟩
/-- A row that is another type's is not this one's block. -/
theorem own_other {w:World} {base e e' size n g:Nat} {v:Value} {xs:List Value} (h:w.ownsRow base e size v n xs) {cur:Array Value} {fr:Nat × Nat} (hg:w.heap[g]?=some (.cells cur e' fr)) (hne:e≠e'):v.ownBlock≠some g:=fun hv=>by
 rcases h.2 with ⟨rfl,_⟩ | ⟨g',cap,cur',rfl,_,hh,_⟩
 ·cases hv
 ·simp only [Value.ownBlock,Option.some.injEq] at hv
  subst hv
  rw [hg] at hh
  simp only [Option.some.injEq,Obj.cells.injEq] at hh
  exact hne hh.2.1.symm
/-- The row of frames grows: those in it stay. -/
theorem FrC.grown {w w':World} {f:Fr} {cs:List Value} (h:FrC w f cs) {row:Option Nat} (hg:w.grownBy w' row) (hr:∀ g,row=some g→∃ cur fr,w.heap[g]?=some (.cells cur 44 fr)):FrC w' f cs:=by
 obtain ⟨A,n,c,A2,n2,c2,e,h1,h2,h3,h4⟩:=h
 have key:∀ {t size m:Nat} {v:Value} {xs:List Value},w.ownsRow 0 t size v m xs→t≠44→w'.ownsRow 0 t size v m xs:=fun ho hne=>by
  refine ho.kept hg ?_
  cases row with
  | none=>exact Classical.em _
  | some g =>
    obtain ⟨cur,fr,hh⟩:=hr g rfl
    have:=own_other ho hh hne
    first | exact .inr (Ne.symm this) | exact .inr this | exact .inr (fun e=>this e) | exact .inr (fun e=>this e.symm)
 exact ⟨A,n,c,A2,n2,c2,e,h1,h2,key h3 (by decide),key h4 (by decide)⟩
def FrsC (w:World):List Fr→List Value→Prop
 | [],cs=>cs=[]
 | f :: fs,cs=>∃ c1 c2,cs=c1 ++ c2∧FrC w f c1∧FrsC w fs c2
theorem FrsC.map {w w':World} (hw:∀ f cs,FrC w f cs→FrC w' f cs):∀ {fs:List Fr} {cs:List Value},FrsC w fs cs→FrsC w' fs cs
 | [],_,h=>h
 | _ :: _,_,⟨c1,c2,e,h1,h2⟩=>⟨c1,c2,e,hw _ _ h1,h2.map hw⟩
theorem FrsC.below {w w':World} {fs:List Fr} {cs:List Value} (h:FrsC w fs cs) (hb:Below w.heap.size w w'):FrsC w' fs cs:=h.map fun _ _ h=>h.below hb
theorem FrsC.len {w:World}:∀ {fs:List Fr} {cs:List Value},FrsC w fs cs→cs.length=fs.length * 9
 | [],_,h=>by cases h;rfl
 | f :: fs,_,⟨c1,c2,e,h1,h2⟩=>by rw [e,List.length_append,h1.len,h2.len,List.length_cons];omega
theorem FrsC.ones {w:World}:∀ {fs:List Fr} {cs:List Value},FrsC w fs cs→ones cs
 | [],_,h=>by cases h;intro u hu;cases hu
 | f :: fs,_,⟨c1,c2,e,h1,h2⟩=>fun u hu=>by
   rw [e] at hu
   rcases List.mem_append.1 hu with h | h
   ·exact h1.ones u h
   ·exact h2.ones u h
theorem FrsC.app {w:World}:∀ {fs gs:List Fr} {cs ds:List Value},FrsC w fs cs→FrsC w gs ds→FrsC w (fs ++ gs) (cs ++ ds)
 | [],_,_,_,h,k=>by cases h;exact k
 | f :: fs,_,_,_,⟨c1,c2,e,h1,h2⟩,k=>⟨c1,c2 ++ _,by rw [e,List.append_assoc],h1,h2.app k⟩
theorem FrsC.one {w:World} {f:Fr} {cs:List Value} (h:FrC w f cs):FrsC w [f] cs:=⟨cs,[],by simp,h,rfl⟩
/-- The k-th of them: its nine cells. -/
theorem FrsC.get {w:World}:∀ {fs:List Fr} {cs:List Value} (k:Nat) (f:Fr),FrsC w fs cs→fs[k]?=some f→∃ c,FrC w f c∧∀ j,j<9→cs[k * 9+j]?=c[j]?
 | [],_,k,f,h,hf=>by simp at hf
 | g :: fs,_,0,f,⟨c1,c2,e,h1,h2⟩,hf=>by
   simp only [List.getElem?_cons_zero,Option.some.injEq] at hf
   subst hf
   exact ⟨c1,h1,fun j hj=>by rw [e,List.getElem?_append_left (by rw [h1.len];omega),Nat.zero_mul,Nat.zero_add]⟩
 | g :: fs,_,k+1,f,⟨c1,c2,e,h1,h2⟩,hf=>by
   obtain ⟨c,hc,hj⟩:=FrsC.get k f h2 (by simpa using hf)
   refine ⟨c,hc,fun j hj9=>?_⟩
   rw [e,List.getElem?_append_right (by rw [h1.len];omega),h1.len,← hj j hj9]
   congr 1;omega
theorem FrsC.take {w:World}:∀ {fs:List Fr} {cs:List Value} (k:Nat),FrsC w fs cs→FrsC w (fs.take k) (cs.take (k * 9))
 | [],_,k,h=>by cases h;simp [FrsC]
 | g :: fs,_,0,h=>by simp [FrsC]
 | g :: fs,_,k+1,⟨c1,c2,e,h1,h2⟩=>by
   refine ⟨c1,c2.take (k * 9),?_,h1,h2.take k⟩
   rw [e,List.take_append,h1.len,List.take_of_length_le (by rw [h1.len];omega)]
   congr 2;omega
theorem FrsC.drop {w:World}:∀ {fs:List Fr} {cs:List Value} (k:Nat),FrsC w fs cs→FrsC w (fs.drop k) (cs.drop (k * 9))
 | [],_,k,h=>by cases h;simp [FrsC]
 | g :: fs,_,0,h=>by simpa using h
 | g :: fs,_,k+1,⟨c1,c2,e,h1,h2⟩=>by
   have e1:c1.drop ((k+1) * 9)=[]:=List.drop_eq_nil_of_le (by rw [h1.len];omega)
   have e2:(c1 ++ c2).drop ((k+1) * 9)=c2.drop (k * 9):=by
    rw [List.drop_append,e1,List.nil_append,h1.len]
    congr 1;omega
   rw [e,e2]
   exact h2.drop k
/-- A row of frames of the call's own. -/
def FrsOwn (w:World) (base:Nat) (v:Value) (fs:List Fr):Prop:=∃ cs,w.ownsRow base 44 9 v fs.length cs∧FrsC w fs cs
theorem own_cells {w:World} {base e size n:Nat} {v:Value} {xs:List Value} (h:w.ownsRow base e size v n xs):∀ g,v.ownBlock=some g→∃ cur fr,w.heap[g]?=some (.cells cur e fr):=fun g hg=>by
 rcases h.2 with ⟨rfl,_⟩ | ⟨g',cap,cur',rfl,_,hh,_⟩
 ·cases hg
 ·simp only [Value.ownBlock,Option.some.injEq] at hg
  subst hg
  exact ⟨_,_,hh⟩
theorem FrsOwn.below {w w':World} {base:Nat} {v:Value} {fs:List Fr} (h:FrsOwn w base v fs) (hb:Below w.heap.size w w'):FrsOwn w' base v fs:=by
 obtain ⟨cs,h1,h2⟩:=h
 exact ⟨cs,own_below h1 hb,h2.below hb⟩
theorem FrsOwn.nil (w:World) (base:Nat):FrsOwn w base (.slice none 0 0) []:=⟨[],own_nil _ _ _ _,rfl⟩
/-- A raw frame, as it lies in an argument. -/
structure Rw where
 k:Int
 id:Int
 off:Int
 a:Int
 b:Int
 bend:Int
 fin:Bool
 A1:Option Addr
 bs:List Nat
 c1:Nat
 A2:Option Addr
 l:List Int
 c2:Nat
structure RawOk (W:World) (r:Rw):Prop where
 id:-9223372036854775808≤r.id∧r.id≤9223372036854775807
 off:-9223372036854775808≤r.off∧r.off≤9223372036854775807
 a:-9223372036854775808≤r.a∧r.a≤9223372036854775807
 b:-9223372036854775808≤r.b∧r.b≤9223372036854775807
 bs:Rd W W.heap.size r.A1 r.bs.length (bv r.bs)
 bc:r.bs.length≤r.c1
 bm:r.bs.length≤140737488355328
 blt:∀ x ∈ r.bs,x<256
 l:Rd W W.heap.size r.A2 r.l.length (ints r.l)
 lc:r.l.length≤r.c2
 lm:r.l.length≤17592186044416
 llt:∀ n ∈ r.l,-9223372036854775808≤n∧n≤9223372036854775807
def rwC (r:Rw):List Value:=[.int .i64 r.k,.int .i64 r.id,.int .i64 r.off,.int .i64 r.a,.int .i64 r.b,.int .i64 r.bend,.bool r.fin,.slice r.A1 r.bs.length r.c1,.slice r.A2 r.l.length r.c2]
/-- A list of raw frames, as an argument. -/
structure IsRaws (W:World) (A:Option Addr) (cap n:Nat) (rs:List Rw):Prop where
 len:rs.length=n
 cap:n≤cap
 big:n≤140737488355328
 rd:0<n→∃ b off,A=some ⟨b,off,none⟩∧b<W.heap.size∧∀ (k:Nat) (r:Rw),rs[k]?=some r→RawOk W r∧∀ (j:Nat) (u:Value),(rwC r)[j]?=some u→W.cell? ⟨b,off+k * 9+j,none⟩=some u
theorem infoFr:(Tryd.prog.info? 44).map (fun i=>(i.zero,i.size,i.bytes))=some (some (.agg #[.int .i64 0,.int .i64 0,.int .i64 0,.int .i64 0,.int .i64 0,.int .i64 0,.bool false,.slice none 0 0,.slice none 0 0]),9,104):=by kernel_rfl
/-- Behind an append of one frame. -/
theorem FrsOwn.push {w w1:World} {base:Nat} {v v1:Value} {fs:List Fr} {f:Fr} {cells cs:List Value} {o:Obj} (ho:w.ownsRow base 44 9 v fs.length cells) (hf:FrsC w fs cells) (hc:FrC w f cs)
  (h1:w1.ownsRow base 44 9 v1 (fs.length+1) (cells ++ cs)) (hg:(w.alloc o).grownBy w1 v.ownBlock):FrsOwn w1 base v1 (fs ++ [f]):=by
 have hb:Below w.heap.size w (w.alloc o):=(Below.refl _ _).alloc (Nat.le_refl _) _
 have hrow:=own_cells (ho.alloc o)
 exact ⟨cells ++ cs,by rw [List.length_append];exact h1,((hf.below hb).map fun _ _ h=>h.grown hg hrow).app (FrsC.one ((hc.below hb).grown hg hrow))⟩
def RightW (w wr:World) (fs:List Fr) (v:Value):Prop:=(∀ f ∈ fs,OkF f)∧FrsOwn wr w.heap.size v fs∧Below w.heap.size w wr
def RightP (K:Nat) (w:World) (e:Ending) (w':World):Prop:=∃ A n c fs,e=.returned (.slice A n c)∧fs.length=n∧n≤K∧RightW w w' fs (.slice A n c)
theorem hright_any (K:Nat) (hK:K≤100) (rs:List Rw) (A:Option Addr) (n c:Nat) (w:World) (hr:IsRaws w A c n rs) :
  Calls Tryd.prog 11 #[.slice A n c,.int .i64 (K:Int)] w (RightP K w):=by
 have HR:=Lib.hid hr
 have hb:=hr.big
 have hci:(n:Int)≤(c:Int):=by have:=hr.cap;omega
 obtain ⟨i0,hi,hz0,hz1,hz2⟩:=info_parts infoFr
 have HI:=Lib.hid (And.intro hi (And.intro hz0 (And.intro hz1 hz2)))
 clear hr hi hz0 hz1 hz2
 go_enter Tryd.func11,Tryd.ntmps11
 go_wp2_with fail
 go_loopw [5,6] (fun v i wr=>∃ (k:Nat),k≤K∧k≤n∧i=.int .i64 k∧(∃ A' c',v=.slice A' k c')∧Hid (∃ fs,fs.length=k∧RightW w wr fs v)) (fun _ i _=>n - (intOf i).toNat)
 case atStart=>exact ⟨0,Nat.zero_le _,Nat.zero_le _,rfl,⟨_,_,rfl⟩,[],rfl,fun f hf=>(by cases hf),FrsOwn.nil _ _,Below.refl _ _⟩
 case round =>
  obtain ⟨k,hkK,hkn,rfl,⟨A',c',rfl⟩,HK⟩:=hrel
  obtain ⟨fs,hfl,hfw⟩:=HK.out
  have HFL:=Lib.hid hfl
  have HFW:=Lib.hid hfw
  clear HK hfl hfw
  by_cases hlt:k<n
  ·have hlti:(k:Int)<(n:Int):=by omega
   by_cases hltK:k<K
   ·have hK2:decide (k<K)=true:=decide_eq_true hltK
    obtain ⟨b,off,hA,hbn,hcs⟩:=HR.out.rd (by omega)
    subst hA
    obtain ⟨r,hrk⟩:∃ r,rs[k]?=some r:=⟨_,List.getElem?_eq_getElem (by rw [HR.out.len];omega)⟩
    obtain ⟨hok,hcell⟩:=hcs k r hrk
    obtain ⟨rk,rid,roff,ra,rb,rbend,rfin,rA1,rbs,rc1,rA2,rl,rc2⟩:=r
    have hb2:b<w.heap.size:=hbn
    have cc:∀ j,wr.cell? ⟨b,off+k * 9+j,none⟩=w.cell? ⟨b,off+k * 9+j,none⟩:=fun j=>HFW.out.2.2.cell (p:=⟨b,off+k * 9+j,none⟩) hb2
    have g0:wr.cell? ⟨b,off+k * 9,none⟩=some (.int .i64 rk):=(cc 0).trans (hcell 0 _ rfl)
    have g1:wr.cell? ⟨b,off+k * 9+1,none⟩=some (.int .i64 rid):=(cc 1).trans (hcell 1 _ rfl)
    have g2:wr.cell? ⟨b,off+k * 9+2,none⟩=some (.int .i64 roff):=(cc 2).trans (hcell 2 _ rfl)
    have g3:wr.cell? ⟨b,off+k * 9+3,none⟩=some (.int .i64 ra):=(cc 3).trans (hcell 3 _ rfl)
    have g4:wr.cell? ⟨b,off+k * 9+4,none⟩=some (.int .i64 rb):=(cc 4).trans (hcell 4 _ rfl)
    have g5:wr.cell? ⟨b,off+k * 9+5,none⟩=some (.int .i64 rbend):=(cc 5).trans (hcell 5 _ rfl)
    have g6:wr.cell? ⟨b,off+k * 9+6,none⟩=some (.bool rfin):=(cc 6).trans (hcell 6 _ rfl)
    have g7:wr.cell? ⟨b,off+k * 9+7,none⟩=some (.slice rA1 rbs.length rc1):=(cc 7).trans (hcell 7 _ rfl)
    have g8:wr.cell? ⟨b,off+k * 9+8,none⟩=some (.slice rA2 rl.length rc2):=(cc 8).trans (hcell 8 _ rfl)
    have HF:Hid (∀ W,Below w.heap.size w W→Calls Tryd.prog 20 #[.agg #[.int .i64 rk,.int .i64 rid,.int .i64 roff,.int .i64 ra,.int .i64 rb,.int .i64 0,.bool rfin,.slice rA1 rbs.length rc1,.slice rA2 rl.length rc2]] W (FrameP W)):=fun W hW =>
     frame_any rk rid roff ra rb rfin rA1 rbs rc1 rA2 rl rc2 W hok.id hok.off hok.a hok.b ((hok.bs.below hW (Nat.le_refl _)).more hW.size) hok.bc hok.bm hok.blt ((hok.l.below hW (Nat.le_refl _)).more hW.size) hok.lc hok.lm hok.llt
    clear hcs hok hcell cc hrk
    go_wp2_with fail
    refine (HF.out _ (HFW.out.2.2.alloc HFW.out.2.2.size _)).mono ?_
    rintro e w2 ⟨f,v,rfl,hokf,hfo,hb2'⟩
    obtain ⟨A1,n1,c1,A2,n2,c2,rfl,e1,e2,h3,h4⟩:=hfo
    have hfc:FrC w2 f (frC f (.slice A1 n1 c1) (.slice A2 n2 c2)):=⟨A1,n1,c1,A2,n2,c2,rfl,e1,e2,own_base h3 (Nat.zero_le _),own_base h4 (Nat.zero_le _)⟩
    unfold frA
    have HC:=Lib.hid hfc
    have HOK:=Lib.hid hokf
    have HBR:Hid (Below wr.heap.size wr w2):=((Below.refl _ _).alloc (Nat.le_refl _) _).trans (hb2'.mono (by simp))
    have HW2:Hid (∃ cells,w2.ownsRow w.heap.size 44 9 (.slice A' k c') fs.length cells∧FrsC w2 fs cells):=HFW.out.2.1.below HBR.out
    obtain ⟨cells,hown2,hfrs2⟩:=HW2.out
    rw [HFL.out] at hown2
    have HO2:=Lib.hid hown2
    have HS2:=Lib.hid hfrs2
    have HBW:Hid (Below w.heap.size w w2):=HFW.out.2.2.trans (HBR.out.mono HFW.out.2.2.size)
    clear e1 e2 h3 h4 hfc hokf hb2' hown2 hfrs2 HW2
    have hb3:Hid (w.heap.size≤(w2.alloc (.cells #[.int .i64 f.k,.int .i64 f.id,.int .i64 f.off,.int .i64 f.a,.int .i64 f.b,.int .i64 f.note,.bool f.fin,.slice A1 n1 c1,.slice A2 n2 c2] 44)).heap.size):=by have:=HBW.out.size;show _≤_;simp only [World.size_alloc];omega
    go_wp2_with (at_builtin;refine wpList_app _ rfl (.tmp 24) (.tmp 27) 27 rfl w.heap.size 44 i0 (.agg #[.int .i64 0,.int .i64 0,.int .i64 0,.int .i64 0,.int .i64 0,.int .i64 0,.bool false,.slice none 0 0,.slice none 0 0]) 9 104 Tryd.underlying27 HI.out.1 HI.out.2.1 HI.out.2.2.1 HI.out.2.2.2 rfl (by decide) (.slice A' k c') k cells rfl (HO2.out.alloc _) (w2.heap.size+1) (some ⟨w2.heap.size,0,none⟩) 1 1 (frC f (.slice A1 n1 c1) (.slice A2 n2 c2)) rfl (rd_new _ _ _ _ _ _ _ rfl (by omega) rfl rfl) HC.out.ones (by unfold maxLen;omega) (by omega) hb3.out ?_)
    intro v1 w3 hown3 hgrow3
    obtain ⟨A3,c3,e3,_⟩:=own_form hown3
    subst e3
    have HN:Hid (∃ fs,fs.length=k+1∧RightW w w3 fs (.slice A3 (k+1) c3)):=by
     refine ⟨fs ++ [f],by rw [List.length_append,HFL.out];rfl,fun g hg=>?_,?_,?_⟩
     ·rcases List.mem_append.1 hg with h | h
      ·exact HFW.out.1 g h
      ·simp only [List.mem_cons,List.not_mem_nil,or_false] at h
       subst h;exact HOK.out
     ·exact FrsOwn.push (by rw [HFL.out];exact HO2.out) HS2.out HC.out (by rw [HFL.out];exact hown3) hgrow3
     ·exact (HBW.out.alloc HBW.out.size _).grown hgrow3 hb3.out (fun g hg=>(HO2.out.lt g hg).1)
    clear hown3 hgrow3
    go_wp2_with fail
    go_roundw
    case rel=>exact ⟨k+1,by omega,by omega,by go_num,⟨_,_,rfl⟩,HN⟩
    case measure=>simp [intOf];omega
   ·have hK2:decide (k<K)=false:=decide_eq_false hltK
    have HE:Hid (RightP K w (.returned (.slice A' k c')) wr):=⟨A',k,c',fs,rfl,HFL.out,hkK,HFW.out⟩
    clear HFL HFW
    go_wp2_with fail
    go_ret
    exact HE.out
  ·have hlti:¬ (k:Int)<(n:Int):=by omega
   have HE:Hid (RightP K w (.returned (.slice A' k c')) wr):=⟨A',k,c',fs,rfl,HFL.out,hkK,HFW.out⟩
   clear HFL HFW
   go_wp2_with fail
   go_ret
   exact HE.out
end Go.Proofs.YtccljifichaieaaDoor
