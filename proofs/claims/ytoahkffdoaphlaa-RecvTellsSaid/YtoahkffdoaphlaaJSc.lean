/- Joined texts. Conditions: as each theorem lists them. -/
import Derived.Test.YtoahkffdoaphlaaJSa
import Derived.OneCell
import Derived.Deep.DeepCutAuto
import Derived.Deep.CutBlock
set_option linter.unusedSimpArgs false
set_option linter.unusedVariables false
set_option maxRecDepth 100000
set_option maxHeartbeats 80000000
namespace Go.Proofs.Ytoahkffdoaphlaa.Sp
open Go Go.RowKit
/-- An address that does not lead into block p. -/
def away (A:Option Addr) (p:Nat):Prop:=∀ a,A=some a→a.block≠p
/-- A set at place o of block p, whose cells are cur. -/
def SetIn (w:World) (p o:Nat) (T:TypeId) (cur:Array Value) (es:List Int):Prop :=
 Ok es∧w.heap[p]?=some (.cells cur T (0,0))∧∃ A c,cur[o]?=some (.slice A es.length c)∧es.length≤c∧okA A es.length c∧Rd w w.heap.size A es.length (ints es)∧away A p
theorem cell_slot {w:World} {p o:Nat} {T:TypeId} {cur:Array Value} {v:Value} (h:w.heap[p]?=some (.cells cur T (0,0))) (ho:cur[o]?=some v):w.cell? ⟨p,o,none⟩=some v:=by simp [World.cell?,h,ho]
theorem free_slot {w:World} {p o:Nat} {T:TypeId} {cur:Array Value} (h:w.heap[p]?=some (.cells cur T (0,0))):w.frozen? ⟨p,o,none⟩=false:=by simp [World.frozen?,h]
theorem set_slot {w:World} {p:Nat} {T:TypeId} {cur:Array Value} (h:w.heap[p]?=some (.cells cur T (0,0))) (o:Nat) (u:Value):(w.setCell ⟨p,o,none⟩ u).heap[p]?=some (.cells (cur.setIfInBounds o u) T (0,0)):=by
 have hlt:=lt_of_block h
 have h':w.heap[p]=.cells cur T (0,0):=by simpa [Array.getElem?_eq_getElem hlt] using h
 show (w.heap.modify p _)[p]?=_
 rw [Array.getElem?_eq_getElem (by simpa using hlt),Array.getElem_modify_self,h']
 rfl
theorem slot_set {cur:Array Value} {o:Nat} {v u:Value} (h:cur[o]?=some v):(cur.setIfInBounds o u)[o]?=some u:=by
 have:=(Array.getElem?_eq_some_iff.1 h).1
 simp [Array.getElem?_setIfInBounds,this]
theorem slot_other {cur:Array Value} {o j:Nat} {u:Value} (h:j≠o):(cur.setIfInBounds j u)[o]?=cur[o]?:=by
 rw [Array.getElem?_setIfInBounds,if_neg h]
theorem SetIn.at {w:World} {p o:Nat} {T:TypeId} {cur:Array Value} {es:List Int} (h:SetIn w p o T cur es) (hm:es.length * 8≤140737488355328):∃ A c,SetAt w w.heap.size p o es A c∧cur[o]?=some (.slice A es.length c)∧away A p:=by
 obtain ⟨h1,h2,A,c,h3,h4,h5,h6,h7⟩:=h
 exact ⟨A,c,⟨h1,hm,h4,h5,h6,Nat.le_refl _,cell_slot h2 h3⟩,h3,h7⟩
theorem SetIn.lt {w:World} {p o:Nat} {T:TypeId} {cur:Array Value} {es:List Int} (h:SetIn w p o T cur es):p<w.heap.size:=lt_of_block h.2.1
theorem SetIn.below {w w':World} {p o:Nat} {T:TypeId} {cur:Array Value} {es:List Int} (h:SetIn w p o T cur es) (hb:Below w.heap.size w w'):SetIn w' p o T cur es:=by
 have hlt:=h.lt
 obtain ⟨h1,h2,A,c,h3,h4,h5,h6,h7⟩:=h
 exact ⟨h1,(hb.block p hlt).trans h2,A,c,h3,h4,h5,(h6.below hb (Nat.le_refl _)).more hb.size,h7⟩
theorem SetIn.drewN {w:World} {p o:Nat} {T:TypeId} {cur:Array Value} {es:List Int} (h:SetIn w p o T cur es) (q:Nat):SetIn (w.drewN q) p o T cur es:=h
theorem Below.drewN' (w:World) (q B:Nat):Below B w (w.drewN q):=⟨rfl,rfl,rfl,Nat.le_refl _,fun _ _=>rfl⟩
/-- Numbers that are read away from a block stay when that block is written. -/
theorem rd_but {w w':World} {B n q:Nat} {A:Option Addr} {xs:List Value} (h:Rd w B A n xs) (hB:B≤w.heap.size) (hg:w.grownBy w' (some q)) (ha:away A q):Rd w' B A n xs:=by
 refine ⟨h.1,fun hn=>?_⟩
 obtain ⟨b,off,rfl,hlt,hc⟩:=h.2 hn
 have hne:b≠q:=ha _ rfl
 exact ⟨b,off,rfl,hlt,fun j u hu=>hg.cell (hc j u hu) (by simp;omega)⟩
/-- A row of the call's own leads away from an older block. -/
theorem own_away {w:World} {base e size n c p:Nat} {A:Option Addr} {xs:List Value} (h:w.ownsRow base e size (.slice A n c) n xs) (hp:p<base):away A p:=fun a ea=>by
 subst ea
 rcases h.2 with ⟨e1,_⟩ | ⟨g,cap,cur',e1,hg,_⟩
 ·simp at e1
 ·simp only [Value.slice.injEq,Option.some.injEq] at e1
  obtain ⟨rfl,_⟩:=e1
  show g≠p
  omega
/-- A set in a block stays when another block is written that its edges do not lie in. -/
theorem SetIn.but {w w':World} {p o q:Nat} {T:TypeId} {cur:Array Value} {es:List Int} (h:SetIn w p o T cur es) (hg:w.grownBy w' (some q)) (hpq:p≠q) (ha:∀ A n c,cur[o]?=some (.slice A n c)→away A q):SetIn w' p o T cur es:=by
 have hlt:=h.lt
 obtain ⟨h1,h2,A,c,h3,h4,h5,h6,h7⟩:=h
 exact ⟨h1,(hg.block p hlt (by simp;omega)).trans h2,A,c,h3,h4,h5,(rd_but h6 (Nat.le_refl _) hg (ha _ _ _ h3)).more hg.size,h7⟩
/-- Another cell of its block is written. -/
theorem SetIn.set {w:World} {p o j:Nat} {T:TypeId} {cur:Array Value} {es:List Int} (h:SetIn w p o T cur es) (hj:j≠o) (u:Value):SetIn (w.setCell ⟨p,j,none⟩ u) p o T (cur.setIfInBounds j u) es:=by
 obtain ⟨h1,h2,A,c,h3,h4,h5,h6,h7⟩:=h
 have hg:w.grownBy (w.setCell ⟨p,j,none⟩ u) (some p):=⟨rfl,rfl,rfl,by simp [World.setCell],fun k hk hne=>Below.heap_setCell _ _ _ _ (fun e=>hne (by simp [e]))⟩
 exact ⟨h1,set_slot h2 j u,A,c,(slot_other hj).trans h3,h4,h5,(rd_but h6 (Nat.le_refl _) hg h7).more hg.size,h7⟩
theorem grown_of {w w1:World} (hb:Below w.heap.size w w1) (p o:Nat) (u:Value):w.grownBy (w1.setCell ⟨p,o,none⟩ u) (some p) :=
 ⟨hb.os,hb.tape,hb.output,by simpa [World.setCell] using hb.size,fun k hk hne=>(Below.heap_setCell _ _ _ _ (fun e=>hne (by simp [e]))).trans (hb.block k hk)⟩
theorem grown_below {w w':World} {B p:Nat} (hg:w.grownBy w' (some p)) (hB:B≤w.heap.size) (hp:B≤p):Below B w w' :=
 ⟨hg.os,hg.tape,hg.output,hg.size,fun k hk=>hg.block k (by omega) (by simp;omega)⟩
theorem below_grown {w w':World} (hb:Below w.heap.size w w') (p:Nat):w.grownBy w' (some p):=⟨hb.os,hb.tape,hb.output,hb.size,fun k hk _=>hb.block k hk⟩
/-- A new edge, or none. -/
def bit (c:Bool) (f:Int):List Int:=if c then [f] else []
theorem turnF_bit (es:List Int) (f t:Int) (b:Bool):turnF es f t b=(es.take (lo es f) ++ bit (oddB (lo es f) != b) f) ++ bit (oddB (up es t) != b) t ++ es.drop (up es t):=rfl
/-- A value that leads into new memory alone. -/
def NewV (w:World) (v:Value):Prop:=∀ A n c,v=.slice A n c→∀ a,A=some a→w.heap.size≤a.block
theorem own_from {w:World} {base e size n c:Nat} {A:Option Addr} {xs:List Value} (h:w.ownsRow base e size (.slice A n c) n xs):∀ a,A=some a→base≤a.block:=fun a ea=>by
 subst ea
 exact (h.lt a.block rfl).1
/-- The new edges so far. -/
def TurnW (wd wx:World) (v:Value) (m:Nat) (l:List Int):Prop:=wx.ownsRow wd.heap.size 3 1 v m (ints l)∧Below wd.heap.size wd wx
theorem turn_do2 (es:List Int) (p o:Nat) (T:TypeId) (cur:Array Value) (f t:Int) (b:Bool) (w:World) (h:SetIn w p o T cur es) (hm:(es.length+2) * 8≤140737488355328) (hft:clamp f<clamp t) :
  Calls Try.prog 99 #[.pointer (some ⟨p,o,none⟩),.int .i64 f,.int .i64 t,.bool b] w fun e w'=>e=.returned (.tuple #[])∧(∃ v,SetIn w' p o T (cur.setIfInBounds o v) (turnF es (clamp f) (clamp t) b)∧NewV w v)∧w.grownBy w' (some p):=by
 have cf:=clamp_in f
 have ct:=clamp_in t
 obtain ⟨f',hf⟩:∃ x,Hid (clamp f=x):=⟨_,rfl⟩
 obtain ⟨t',ht⟩:∃ x,Hid (clamp t=x):=⟨_,rfl⟩
 have W1:Hid (∀ W,Calls Try.prog 97 #[.int .i64 f] W fun e w'=>e=.returned (.int .i64 f')∧W=w'):=fun W=>by have:=within_any f W;rwa [hf.out] at this
 have W2:Hid (∀ W,Calls Try.prog 97 #[.int .i64 t] W fun e w'=>e=.returned (.int .i64 t')∧W=w'):=fun W=>by have:=within_any t W;rwa [ht.out] at this
 rw [hf.out,ht.out] at hft ⊢
 rw [hf.out] at cf
 rw [ht.out] at ct
 have hle:¬ t'≤f':=by omega
 obtain ⟨n,hn⟩:∃ n,Hid (es.length=n):=⟨_,rfl⟩
 obtain ⟨A,c,hat,hcur,haw⟩:=h.at (by omega)
 have hhp:=h.2.1
 have HOk:=Lib.hid (ok_turnF es f' t' b h.1 (by omega) hft (by omega))
 have L1:=below_any es w.heap.size p o A c f' w hat
 have L2:∀ q,Calls Try.prog 96 #[.pointer (some ⟨p,o,none⟩),.int .i64 t'] (w.drewN q) fun e w'=>e=.returned (.int .i64 ((up es t':Nat):Int))∧∃ q',w'=(w.drewN q).drewN q':=fun q=>upto_any es w.heap.size p o A c t' (w.drewN q) hat
 have hlu:lo es f'≤up es t':=Nat.le_trans (by unfold lo up;exact List.countP_mono_left fun x _ hx=>by simp at hx ⊢;omega) (Nat.le_refl _)
 have hul:=up_le_len es t'
 obtain ⟨i,hi⟩:∃ i,Hid (lo es f'=i):=⟨_,rfl⟩
 obtain ⟨j,hj⟩:∃ j,Hid (up es t'=j):=⟨_,rfl⟩
 have HT:Hid (turnF es f' t' b=(es.take i ++ bit (oddB i != b) f') ++ bit (oddB j != b) t' ++ es.drop j):=by show _=_;rw [turnF_bit,hi.out,hj.out]
 rw [hi.out] at L1 hlu
 rw [hj.out] at L2 hlu hul
 rw [hn.out] at hul hm hcur
 have HL1:=Lib.hid L1
 have HL2:=Lib.hid L2
 have hcell:w.cell? ⟨p,o,none⟩=some (.slice A n c):=cell_slot hhp hcur
 have hfz:w.frozen? ⟨p,o,none⟩=false:=free_slot hhp
 have hpz:p<w.heap.size:=h.lt
 have hpn:p≠w.heap.size:=by omega
 have hpn':w.heap.size≠p:=by omega
 have hnc:n≤c:=by have:=hat.2.2.1;rwa [hn.out] at this
 have HX:Hid (Rd w w.heap.size A n (ints es)):=by have:=hat.2.2.2.2.1;rwa [hn.out] at this
 have HA:Hid (okA A n c):=by have:=hat.2.2.2.1;rwa [hn.out] at this
 have HHP:=Lib.hid hhp
 have HCU:=Lib.hid hcur
 have O1:=Lib.hid (fun W=>odd_any i W (by omega))
 have O2:=Lib.hid (fun W=>odd_any j W (by omega))
 obtain ⟨o1,ho1⟩:∃ o,Hid (oddB i=o):=⟨_,rfl⟩
 obtain ⟨o2,ho2⟩:∃ o,Hid (oddB j=o):=⟨_,rfl⟩
 rw [ho1.out] at O1 HT
 rw [ho2.out] at O2 HT
 obtain ⟨i0,hii,hz0,hz1,hz2⟩:=info_parts infoI
 have HI:=Lib.hid (And.intro hii (And.intro hz0 (And.intro hz1 hz2)))
 obtain ⟨N,hN⟩:∃ N:Nat,N+j=i+2+n:=⟨i+2+n - j,by omega⟩
 have hNi:(i:Int)+2+(n:Int) - (j:Int)=(N:Int):=by omega
 have hmk:=fun W=>run_make (P:=Try.prog) W 41 3 i0 (.int .i64 0) Try.underlying41 hii hz0 .i64 .i64 0 ((i:Int)+2+(n:Int) - (j:Int)) (by omega) (by omega) (by rw [hz2];omega) (by omega)
 have htn:Hid (((i:Int)+2+(n:Int) - (j:Int)).toNat=N):=by show _=_;omega
 simp only [hz1,Int.toNat_zero,htn.out,Nat.mul_one] at hmk
 have HNI:=Lib.hid hNi
 have hib:(i:Int)≤(n:Int):=by omega
 have hjb:(j:Int)≤(n:Int):=by omega
 have hnb:(n:Int)≤17592186044416:=by omega
 have hncI:(n:Int)≤(c:Int):=by omega
 have hicI:(i:Int)≤(c:Int):=by omega
 have hjcI:(j:Int)≤(c:Int):=by omega
 clear hat L1 L2 hii hz0 hz1 hz2 hNi hhp hcur h
 go_enter Try.func99,Try.ntmps99
 go_wp2_with fail
 refine (W1.out _).mono ?_;rintro e w' ⟨rfl,rfl⟩
 go_wp2_with fail
 refine (W2.out _).mono ?_;rintro e w' ⟨rfl,rfl⟩
 go_wp2_with fail
 refine HL1.out.mono ?_;rintro e w' ⟨rfl,q1,rfl⟩
 go_wp2_with fail
 refine (HL2.out q1).mono ?_;rintro e wd ⟨rfl,q2,hwd⟩
 have hcell2:wd.cell? ⟨p,o,none⟩=some (.slice A n c):=by rw [hwd];exact hcell
 have hfz2:wd.frozen? ⟨p,o,none⟩=false:=by rw [hwd];exact hfz
 have hpz2:p<wd.heap.size:=by rw [hwd];exact hpz
 have hpn2:wd.heap.size≠p:=by omega
 have HSZ:Hid (wd.heap.size=w.heap.size):=by rw [hwd];exact rfl
 have HXd:Hid (Rd wd wd.heap.size A n (ints es)):=by rw [hwd];exact HX.out
 have HBd:Hid (Below w.heap.size w wd):=by rw [hwd];exact (Below.drewN' _ _ _).trans (Below.drewN' _ _ _)
 have HHPd:Hid (wd.heap[p]?=some (.cells cur T (0,0))):=by rw [hwd];exact HHP.out
 clear hwd hcell hfz hpz hpn'
 go_wp2_with (at_builtin;refine wpList_app _ rfl (.tmp 35) (.tmp 41) 41 rfl wd.heap.size 3 i0 (.int .i64 0) 1 8 Try.underlying41 HI.out.1 HI.out.2.1 HI.out.2.2.1 HI.out.2.2.2 rfl (by decide) _ 0 [] rfl (World.ownsRow_made _ _ N (Nat.le_refl _) ?c1 ?c2) wd.heap.size _ i _ (ints (es.take i)) rfl ?c3 (ones_ints _) ?c4 ?c5 ?c6 ?_)
 case c1=>unfold maxLen;omega
 case c2=>rw [size_madeCells,Nat.mul_one]
 case c3=>rw [Nat.mul_one,← ints_take];exact (HXd.out.head i (by omega)).alloc (Nat.le_refl _) _
 case c4=>unfold maxLen;omega
 case c5=>omega
 case c6=>simp
 intro v1 w1 hown1 hgrow1
 have HT1:Hid (TurnW wd w1 v1 i (es.take i)):=by
  refine ⟨?_,((Below.refl _ _).alloc (Nat.le_refl _) _).grown hgrow1 (by simp) (fun g hg=>by simp [Value.ownBlock] at hg;omega)⟩
  simpa using hown1
 clear hown1 hgrow1 hmk hcell2 hfz2
 go_upto_if 46 with (go_at_call 95;refine (O1.out _).mono ?_;rintro e w' ⟨rfl,rfl⟩)
 go_cut [10] (fun v wx=>∃ m,m≤i+1∧Hid (TurnW wd wx v m (es.take i ++ bit (o1 != b) f')))
 case first =>
  obtain ⟨A1,c1,e1,_⟩:=own_form HT1.out.1
  subst e1
  have hcs:(o1=true∧b=true)∨(o1=false∧b=false)∨(o1=true∧b=false)∨(o1=false∧b=true):=by cases o1 <;> cases b <;> simp
  rcases hcs with ⟨rfl,rfl⟩ | ⟨rfl,rfl⟩ | ⟨rfl,rfl⟩ | ⟨rfl,rfl⟩
  case inl | inr.inl =>
   go_wp2_with fail
   go_meet
   case rel=>exact ⟨i,by omega,by have:=HT1.out;show TurnW _ _ _ _ _;simpa [bit] using this⟩
  all_goals
   have HSW:Hid (wd.heap.size≤w1.heap.size):=HT1.out.2.size
   have hd1:Hid (Rd (w1.alloc (.cells #[.int .i64 f'] 3)) (w1.heap.size+1) (some ⟨w1.heap.size,0,none⟩) (1 * 1) (ints [f'])):=rd_new _ _ _ _ _ _ _ rfl (by omega) rfl rfl
   have hd2:Hid (i+1≤maxLen):=by show _≤_;unfold maxLen;omega
   have hd3:Hid ((i+1) * 8≤140737488355328):=by show _≤_;omega
   have hd4:Hid (wd.heap.size≤(w1.alloc (.cells #[.int .i64 f'] 3)).heap.size):=by have:=HSW.out;show _≤_;simp only [World.size_alloc];omega
   go_wp2_with (at_builtin;refine wpList_app _ rfl (.tmp 47) (.tmp 49) 41 rfl wd.heap.size 3 i0 (.int .i64 0) 1 8 Try.underlying41 HI.out.1 HI.out.2.1 HI.out.2.2.1 HI.out.2.2.2 rfl (by decide) (.slice A1 i c1) i (ints (es.take i)) rfl (HT1.out.1.alloc _) (w1.heap.size+1) (some ⟨w1.heap.size,0,none⟩) 1 _ (ints [f']) rfl hd1.out (ones_ints _) hd2.out hd3.out hd4.out ?_)
   intro v2 w2 hown2 hgrow2
   have HT2:Hid (TurnW wd w2 v2 (i+1) (es.take i ++ bit true f')):=by
    refine ⟨?_,(HT1.out.2.alloc HSW.out _).grown hgrow2 hd4.out (fun g hg=>(HT1.out.1.lt g hg).1)⟩
    rw [ints_app]
    exact hown2
   clear hown2 hgrow2
   go_wp2_with fail
   go_meet
   case rel=>exact ⟨i+1,by omega,HT2⟩
 case rest =>
  obtain ⟨m,hm1,HT2⟩:=hcut
  obtain ⟨X,hX⟩:∃ X,Hid (es.take i ++ bit (o1 != b) f'=X):=⟨_,rfl⟩
  rw [hX.out] at HT2 HT
  obtain ⟨w2,hw2⟩:∃ w2:World,wc=w2:=⟨_,rfl⟩
  subst hw2
  go_upto_if 54 with (go_at_call 95;refine (O2.out _).mono ?_;rintro e w' ⟨rfl,rfl⟩)
  go_cut [10] (fun v wx=>∃ m,m≤i+2∧Hid (TurnW wd wx v m (X ++ bit (o2 != b) t')))
  case first =>
   obtain ⟨A2,c2,e2,_⟩:=own_form HT2.out.1
   subst e2
   have hcs:(o2=true∧b=true)∨(o2=false∧b=false)∨(o2=true∧b=false)∨(o2=false∧b=true):=by cases o2 <;> cases b <;> simp
   rcases hcs with ⟨rfl,rfl⟩ | ⟨rfl,rfl⟩ | ⟨rfl,rfl⟩ | ⟨rfl,rfl⟩
   case inl | inr.inl =>
    go_wp2_with fail
    go_meet
    case rel=>exact ⟨m,by omega,by have:=HT2.out;show TurnW _ _ _ _ _;simpa [bit] using this⟩
   all_goals
    have HSW:Hid (wd.heap.size≤wc.heap.size):=HT2.out.2.size
    have hd1:Hid (Rd (wc.alloc (.cells #[.int .i64 t'] 3)) (wc.heap.size+1) (some ⟨wc.heap.size,0,none⟩) (1 * 1) (ints [t'])):=rd_new _ _ _ _ _ _ _ rfl (by omega) rfl rfl
    have hd2:Hid (m+1≤maxLen):=by show _≤_;unfold maxLen;omega
    have hd3:Hid ((m+1) * 8≤140737488355328):=by show _≤_;omega
    have hd4:Hid (wd.heap.size≤(wc.alloc (.cells #[.int .i64 t'] 3)).heap.size):=by have:=HSW.out;show _≤_;simp only [World.size_alloc];omega
    go_wp2_with (at_builtin;refine wpList_app _ rfl (.tmp 55) (.tmp 57) 41 rfl wd.heap.size 3 i0 (.int .i64 0) 1 8 Try.underlying41 HI.out.1 HI.out.2.1 HI.out.2.2.1 HI.out.2.2.2 rfl (by decide) (.slice A2 m c2) m (ints X) rfl (HT2.out.1.alloc _) (wc.heap.size+1) (some ⟨wc.heap.size,0,none⟩) 1 _ (ints [t']) rfl hd1.out (ones_ints _) hd2.out hd3.out hd4.out ?_)
    intro v3 w3 hown3 hgrow3
    have HT3:Hid (TurnW wd w3 v3 (m+1) (X ++ bit true t')):=by
     refine ⟨?_,(HT2.out.2.alloc HSW.out _).grown hgrow3 hd4.out (fun g hg=>(HT2.out.1.lt g hg).1)⟩
     rw [ints_app]
     exact hown3
    clear hown3 hgrow3
    go_wp2_with fail
    go_meet
    case rel=>exact ⟨m+1,by omega,HT3⟩
  case rest =>
   obtain ⟨k,hk1,HT3⟩:=hcut
   obtain ⟨A3,c3,e3,_⟩:=own_form HT3.out.1
   subst e3
   obtain ⟨Y,hY⟩:∃ Y,Hid (X ++ bit (o2 != b) t'=Y):=⟨_,rfl⟩
   rw [hY.out] at HT3 HT
   clear HT2
   have HSW:Hid (wd.heap.size≤wc.heap.size):=HT3.out.2.size
   have hcell3:wc.cell? ⟨p,o,none⟩=some (.slice A n c):=by
    rw [HT3.out.2.cell (p:=⟨p,o,none⟩) hpz2];exact cell_slot HHPd.out HCU.out
   have hd1:Hid (Rd wc wd.heap.size (tailA A c j) ((n - j) * 1) (ints (es.drop j))):=by
    rw [Nat.mul_one,← ints_drop]
    exact (HXd.out.below HT3.out.2 (Nat.le_refl _)).tail c j hul hnc
   have hd2:Hid (k+(n - j)≤maxLen):=by show _≤_;unfold maxLen;omega
   have hd3:Hid ((k+(n - j)) * 8≤140737488355328):=by show _≤_;omega
   go_wp2_with (at_builtin;refine wpList_app _ rfl (.tmp 60) (.tmp 66) 41 rfl wd.heap.size 3 i0 (.int .i64 0) 1 8 Try.underlying41 HI.out.1 HI.out.2.1 HI.out.2.2.1 HI.out.2.2.2 rfl (by decide) (.slice A3 k c3) k (ints Y) rfl HT3.out.1 wd.heap.size (tailA A c j) (n - j) _ (ints (es.drop j)) rfl hd1.out (ones_ints _) hd2.out hd3.out HSW.out ?_)
   all_goals
    intro v4 w4 hown4 hgrow4
    have HB4:Hid (Below wd.heap.size wd w4):=HT3.out.2.grown hgrow4 HSW.out (fun g hg=>(HT3.out.1.lt g hg).1)
    have hlen:Hid (k+(n - j)=(turnF es f' t' b).length):=by
     have:=hown4.1
     rw [← ints_app,← HT.out,ints_len,Nat.mul_one] at this
     exact this.symm
    rw [← ints_app,← HT.out,hlen.out] at hown4
    obtain ⟨A5,c5,e5,hc5,_,hok5,hrd5⟩:=own_form hown4
    subst e5
    have HR:=Lib.hid (And.intro hc5 (And.intro hok5 hrd5))
    have HAW5:Hid (away A5 p):=own_away hown4 hpz2
    have HNW5:Hid (∀ a,A5=some a→w.heap.size≤a.block):=fun a ea=>by have:=own_from hown4 a ea;have:=HSZ.out;omega
    clear hown4 hgrow4 hc5 hok5 hrd5 hcell3
    have hhp4:w4.heap[p]?=some (.cells cur T (0,0)):=(HB4.out.block p hpz2).trans HHPd.out
    have HHP4:=Lib.hid hhp4
    have hcell4:w4.cell? ⟨p,o,none⟩=some (.slice A n c):=cell_slot hhp4 HCU.out
    have hfz4:w4.frozen? ⟨p,o,none⟩=false:=free_slot hhp4
    clear hhp4
    go_wp2_with fail
    go_end0
    have HG:Hid (w.grownBy (w4.setCell ⟨p,o,none⟩ (.slice A5 (turnF es f' t' b).length c5)) (some p)):=grown_of (HBd.out.trans (by have:=HB4.out;rwa [HSZ.out] at this)) p o _
    have hb:w4.grownBy (w4.setCell ⟨p,o,none⟩ (.slice A5 (turnF es f' t' b).length c5)) (some p):=grown_of (Below.refl _ _) p o _
    exact ⟨rfl,⟨.slice A5 (turnF es f' t' b).length c5,⟨HOk.out,set_slot HHP4.out o _,A5,c5,slot_set HCU.out,HR.out.1,HR.out.2.1,by
     have:=HR.out.2.2
     rw [Nat.mul_one] at this
     exact (rd_but this (Nat.le_refl _) hb HAW5.out).more hb.size,HAW5.out⟩,fun A n c e a ea=>by
     simp only [Value.slice.injEq] at e
     exact HNW5.out a (e.1.trans ea)⟩,HG.out⟩
theorem turn_do (es:List Int) (p o:Nat) (T:TypeId) (cur:Array Value) (f t:Int) (b:Bool) (w:World) (h:SetIn w p o T cur es) (hm:(es.length+2) * 8≤140737488355328) (hft:clamp f<clamp t) :
  Calls Try.prog 99 #[.pointer (some ⟨p,o,none⟩),.int .i64 f,.int .i64 t,.bool b] w fun e w'=>e=.returned (.tuple #[])∧(∃ v,SetIn w' p o T (cur.setIfInBounds o v) (turnF es (clamp f) (clamp t) b))∧w.grownBy w' (some p) :=
 (turn_do2 es p o T cur f t b w h hm hft).mono fun _ _ ⟨h1,⟨v,h2,_⟩,h3⟩=>⟨h1,⟨v,h2⟩,h3⟩
theorem turn_none (es:List Int) (p o:Nat) (T:TypeId) (cur:Array Value) (f t:Int) (b:Bool) (w:World) (h:SetIn w p o T cur es) (hft:clamp t≤clamp f) :
  Calls Try.prog 99 #[.pointer (some ⟨p,o,none⟩),.int .i64 f,.int .i64 t,.bool b] w fun e w'=>e=.returned (.tuple #[])∧w=w':=by
 obtain ⟨f',hf⟩:∃ x,Hid (clamp f=x):=⟨_,rfl⟩
 obtain ⟨t',ht⟩:∃ x,Hid (clamp t=x):=⟨_,rfl⟩
 have W1:Hid (∀ W,Calls Try.prog 97 #[.int .i64 f] W fun e w'=>e=.returned (.int .i64 f')∧W=w'):=fun W=>by have:=within_any f W;rwa [hf.out] at this
 have W2:Hid (∀ W,Calls Try.prog 97 #[.int .i64 t] W fun e w'=>e=.returned (.int .i64 t')∧W=w'):=fun W=>by have:=within_any t W;rwa [ht.out] at this
 rw [hf.out,ht.out] at hft
 clear h
 go_enter Try.func99,Try.ntmps99
 go_wp2_with fail
 refine (W1.out _).mono ?_;rintro e w' ⟨rfl,rfl⟩
 go_wp2_with fail
 refine (W2.out _).mono ?_;rintro e w' ⟨rfl,rfl⟩
 go_wp2_with fail
 first | (go_end0;exact ⟨rfl,rfl⟩) | (go_ret;exact ⟨rfl,rfl⟩) | exact bodyPost_ret (v:=.tuple #[]) (by simp [results,Try.results99,go_sem]) rfl ⟨rfl,rfl⟩
theorem set_same {cur:Array Value} {o:Nat} {v:Value} (h:cur[o]?=some v):cur.setIfInBounds o v=cur:=by
 apply Array.ext_getElem?
 intro i
 rw [Array.getElem?_setIfInBounds]
 by_cases e:o=i
 ·subst e
  have:=(Array.getElem?_eq_some_iff.1 h).1
  rw [if_pos rfl,if_pos this,h]
 ·rw [if_neg e]
theorem turn_any (es:List Int) (p o:Nat) (T:TypeId) (cur:Array Value) (f t:Int) (b:Bool) (w:World) (h:SetIn w p o T cur es) (hm:(es.length+2) * 8≤140737488355328) :
  Calls Try.prog 99 #[.pointer (some ⟨p,o,none⟩),.int .i64 f,.int .i64 t,.bool b] w fun e w'=>e=.returned (.tuple #[])∧(∃ v,SetIn w' p o T (cur.setIfInBounds o v) (turn es f t b))∧w.grownBy w' (some p):=by
 unfold turn
 by_cases hft:clamp t≤clamp f
 ·rw [if_pos hft]
  refine (turn_none es p o T cur f t b w h hft).mono ?_
  rintro e w' ⟨rfl,rfl⟩
  obtain ⟨h1,h2,A,c,h3,h4⟩:=h
  exact ⟨rfl,⟨.slice A es.length c,h1,by rw [set_same h3];exact h2,A,c,slot_set h3,h4⟩,below_grown (Below.refl _ _) p⟩
 ·rw [if_neg hft]
  exact turn_do es p o T cur f t b w h hm (by omega)
theorem add_any (es:List Int) (p o:Nat) (T:TypeId) (cur:Array Value) (f t:Int) (w:World) (h:SetIn w p o T cur es) (hm:(es.length+2) * 8≤140737488355328) :
  Calls Try.prog 57 #[.pointer (some ⟨p,o,none⟩),.int .i64 f,.int .i64 t] w fun e w'=>e=.returned (.tuple #[])∧(∃ v,SetIn w' p o T (cur.setIfInBounds o v) (turn es f t true))∧w.grownBy w' (some p):=by
 have H:=Lib.hid (turn_any es p o T cur f t true w h hm)
 clear h hm
 go_enter Try.func57,Try.ntmps57
 go_wp2_with (go_at_call 99;refine H.out.mono ?_;rintro e w' ⟨rfl,h1,h2⟩)
 have H1:=Lib.hid h1
 have H2:=Lib.hid h2
 clear h1 h2
 go_wp2
 go_end0
 exact ⟨rfl,H1.out,H2.out⟩
theorem add_any2 (es:List Int) (p o:Nat) (T:TypeId) (cur:Array Value) (f t:Int) (w:World) (h:SetIn w p o T cur es) (hm:(es.length+2) * 8≤140737488355328) (hft:clamp f<clamp t) :
  Calls Try.prog 57 #[.pointer (some ⟨p,o,none⟩),.int .i64 f,.int .i64 t] w fun e w'=>e=.returned (.tuple #[])∧(∃ v,SetIn w' p o T (cur.setIfInBounds o v) (turn es f t true)∧NewV w v)∧w.grownBy w' (some p):=by
 have e:turn es f t true=turnF es (clamp f) (clamp t) true:=by unfold turn;rw [if_neg (by omega)]
 rw [e]
 have H:=Lib.hid (turn_do2 es p o T cur f t true w h hm hft)
 clear h hm e hft
 go_enter Try.func57,Try.ntmps57
 go_wp2_with (go_at_call 99;refine H.out.mono ?_;rintro e w' ⟨rfl,h1,h2⟩)
 have H1:=Lib.hid h1
 have H2:=Lib.hid h2
 clear h1 h2
 go_wp2
 go_end0
 exact ⟨rfl,H1.out,H2.out⟩
theorem drop_any (es:List Int) (p o:Nat) (T:TypeId) (cur:Array Value) (f t:Int) (w:World) (h:SetIn w p o T cur es) (hm:(es.length+2) * 8≤140737488355328) :
  Calls Try.prog 63 #[.pointer (some ⟨p,o,none⟩),.int .i64 f,.int .i64 t] w fun e w'=>e=.returned (.tuple #[])∧(∃ v,SetIn w' p o T (cur.setIfInBounds o v) (turn es f t false))∧w.grownBy w' (some p):=by
 have H:=Lib.hid (turn_any es p o T cur f t false w h hm)
 clear h hm
 go_enter Try.func63,Try.ntmps63
 go_wp2_with (go_at_call 99;refine H.out.mono ?_;rintro e w' ⟨rfl,h1,h2⟩)
 have H1:=Lib.hid h1
 have H2:=Lib.hid h2
 clear h1 h2
 go_wp2
 go_end0
 exact ⟨rfl,H1.out,H2.out⟩
end Go.Proofs.Ytoahkffdoaphlaa.Sp
