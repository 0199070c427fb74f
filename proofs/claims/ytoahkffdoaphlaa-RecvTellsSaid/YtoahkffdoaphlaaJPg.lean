/- Joined texts. Conditions: as each theorem lists them. -/
import Derived.Test.YtoahkffdoaphlaaJPf
import Derived.Test.YtoahkffdoaphlaaJVi
import Derived.Test.YtoahkffdoaphlaaJZn
import Derived.Test.YtoahkffdoaphlaaJZr
set_option linter.unusedSimpArgs false
set_option linter.unusedVariables false
set_option maxRecDepth 100000
set_option maxHeartbeats 80000000
namespace Go.Proofs.Ytoahkffdoaphlaa.Re
open Go Go.RowKit Go.Proofs.Ytoahkffdoaphlaa Go.Proofs.Ytoahkffdoaphlaa.Sp Go.Proofs.Ytoahkffdoaphlaa.Se Go.Maps
section
variable {w w':World} {p:Nat} {F:List Nat} {v0 v4:Value} {n:Nat} {s:Rs}
theorem put_arg2 (h:RcIn w p F v0 v4 n s) (off:Int) (fin:Bool) (N:Nat) (A:Option Addr) (c:Nat) (hoff:off<0∨off > 4611686018427387903 - (N:Int)) (hN:N≤140737488355328) :
  Calls Try.prog 42 #[.pointer (some ⟨p,0,none⟩),.int .i64 off,.bool fin,.slice A N c] w fun e w'=>e=.returned (.tuple #[.int .i64 0,.int .i64 1])∧RcTo w w' p F n s:=by
 have HT:=Lib.hid (h.here (Below.refl _ _))
 have hw1:IntKind.i64.wrap (4611686018427387903 - (N:Int))=4611686018427387903 - (N:Int):=IntWalk.i64_in _ (by omega)
 clear h
 by_cases h0:off<0
 ·clear hoff
  go_enter Try.func42,Try.ntmps42
  go_wp2_with fail
  go_ret2
  exact ⟨rfl,HT.out⟩
 ·have h1:4611686018427387903 - (N:Int)<off:=by omega
  clear hoff
  go_enter Try.func42,Try.ntmps42
  go_wp2_with fail
  go_ret2
  exact ⟨rfl,HT.out⟩
theorem put_ref2 (h:RcIn w p F v0 v4 n s) (off:Int) (fin:Bool) (N:Nat) (A:Option Addr) (c:Nat) (h0:0≤off) (h1:off≤4611686018427387903 - (N:Int)) (hN:N≤140737488355328) (hr:refuseS s (off+(N:Int)) fin≠0) :
  Calls Try.prog 42 #[.pointer (some ⟨p,0,none⟩),.int .i64 off,.bool fin,.slice A N c] w fun e w'=>e=.returned (.tuple #[.int .i64 0,.int .i64 (refuseS s (off+(N:Int)) fin)])∧RcTo w w' p F n s:=by
 have HT:=Lib.hid (h.here (Below.refl _ _))
 have hw1:IntKind.i64.wrap (4611686018427387903 - (N:Int))=4611686018427387903 - (N:Int):=IntWalk.i64_in _ (by omega)
 have hw2:IntKind.i64.wrap (off+(N:Int))=off+(N:Int):=IntWalk.i64_in _ (by omega)
 have HR:=Lib.hid (refuse_rc h (off+(N:Int)) fin)
 obtain ⟨r,hr'⟩:∃ x,refuseS s (off+(N:Int)) fin=x:=⟨_,rfl⟩
 rw [hr'] at HR hr ⊢
 have hrb:(r == 0)=false:=by simpa using hr
 have hb1:¬ off<0:=by omega
 have hb2:¬ 4611686018427387903 - (N:Int)<off:=by omega
 clear h hr' hr
 go_enter Try.func42,Try.ntmps42
 go_wp2_with fail
 refine HR.out.mono ?_
 rintro e w1 ⟨rfl,hw1⟩
 have hw1:=hw1.symm
 subst hw1
 go_wp2_with fail
 go_ret2
 exact ⟨rfl,HT.out⟩
end
theorem cnt_le_top {es:List Int} (h:Ok es) (N:Nat) (hm:∀ x:Int,mem es x=true→0≤x∧x<(N:Int)):cnt es≤(N:Int):=by
 have ee:∀ e ∈ es,0≤e∧e≤(N:Int):=fun e he=>⟨(h.2.2 e he).1,edge_top h (by omega) hm e he⟩
 rw [cnt_card N _ h.1 h.2.1 ee]
 have:card N (mem es)≤N:=by
  unfold card
  have:=List.countP_le_length (l:=List.range N) (p:=fun i:Nat=>mem es (i:Int))
  simpa using this
 omega
section
variable {W w w':World} {p n q j:Nat} {F F' G G':List Nat} {s s':Rs} {r r':Rq} {A:Option Addr} {bs:List Nat}
/-- Put, whatever comes, of however many bytes: what is kept is counted by what came. -/
theorem put_hr2 {B:Nat→Nat} (h:HR W w p n F s) (hk:RsNum s) (hi:RG s B) (htl:s.tl≤225000000000000) (off:Int) (fin:Bool) (c:Nat) (hn:(n:Int)≤cnt s.es) (hr:RowO w F A bs) (hc:bs.length≤c) (hlt:∀ x ∈ bs,x<256) (hbl:bs.length≤140737488355328) :
  Calls Try.prog 42 #[.pointer (some ⟨p,0,none⟩),.int .i64 off,.bool fin,.slice A bs.length c] w fun e w'=>e=.returned (.tuple #[.int .i64 (putS s off fin bs).1,.int .i64 (putS s off fin bs).2.1])∧∃ F' n',HR W w' p n' F' (putS s off fin bs).2.2∧Goes w w' F F'∧((n:Int)≤cnt s.es→(n':Int)≤cnt (putS s off fin bs).2.2.es):=by
 by_cases h1:off<0∨off > 4611686018427387903 - (bs.length:Int)
 ·have e:putS s off fin bs=(0,1,s):=by unfold putS;rw [if_pos h1]
  rw [e]
  obtain ⟨v0,v4,k1⟩:=h.st
  refine (put_arg2 k1 off fin bs.length A c h1 hbl).mono fun _ _ hh=>⟨hh.1,?_⟩
  obtain ⟨F',k2,k3⟩:=h.to hh.2
  exact ⟨F',n,k2,k3,id⟩
 ·by_cases h2:refuseS s (off+(bs.length:Int)) fin=0
  ·obtain ⟨o,rfl⟩:∃ o:Nat,off=(o:Int):=⟨off.toNat,by omega⟩
   obtain ⟨v0,v4,k1⟩:=h.st
   have h3:=(refuse_zero h2).1
   have htp:=hi.top
   have htk:=hi.tk
   have hg:=cnt_gaps hi.ok s.tl.toNat (fun x hx=>by have:=hi.lt x hx;omega) (o:Int) (max (o:Int) s.tk) ((o:Int)+(bs.length:Int)) (by omega) (by omega) (by omega) (by omega)
   have hT:=cnt_bound (ok_turn s.es (o:Int) ((o:Int)+(bs.length:Int)) true hi.ok)
   have hb:=cnt_le_top (ok_turn s.es (o:Int) ((o:Int)+(bs.length:Int)) true hi.ok) s.tl.toNat (fun x hx=>by
    rw [mem_turn _ _ _ _ hi.ok] at hx
    split at hx
    ·rename_i hc;unfold clamp at hc;omega
    ·have:=hi.lt x hx;omega)
   have h0:=(cnt_bound (ok_gaps hi.ok (max (o:Int) s.tk) ((o:Int)+(bs.length:Int)))).1
   refine (put_ok2 k1 hk o fin bs A c (by omega) (by omega) hr.1 hc hr.2 hlt hbl h2).mono fun _ _ hh=>⟨hh.1,?_⟩
   obtain ⟨F',k2,k3⟩:=h.to hh.2
   refine ⟨F',_,k2,k3,fun hq=>?_⟩
   have he:(putS s (o:Int) fin bs).2.2.es=turn s.es (o:Int) ((o:Int)+(bs.length:Int)) true:=by rw [put_form s o fin bs (by omega) h2]
   rw [he]
   omega
  ·have e:putS s off fin bs=(0,refuseS s (off+(bs.length:Int)) fin,s):=by unfold putS;rw [if_neg h1,if_pos h2]
   rw [e]
   obtain ⟨v0,v4,k1⟩:=h.st
   refine (put_ref2 k1 off fin bs.length A c (by omega) (by omega) hbl h2).mono fun _ _ hh=>⟨hh.1,?_⟩
   obtain ⟨F',k2,k3⟩:=h.to hh.2
   exact ⟨F',n,k2,k3,id⟩
theorem has_hr (h:HR W w p n F s) (hl:s.es.length≤8796093022208) (z:Int):Calls Try.prog 50 #[.pointer (some ⟨p,0,none⟩),.int .i64 z] w fun e w'=>e=.returned (.bool (mem s.es z))∧Below w.heap.size w w':=by
 obtain ⟨v0,v4,h1⟩:=h.st
 obtain ⟨A,c,k1,_⟩:=h1.setIn.at (by omega)
 refine (has_any _ _ _ _ A c z _ k1).mono ?_
 rintro e w' ⟨rfl,m,rfl⟩
 exact ⟨rfl,⟨rfl,rfl,rfl,Nat.le_refl _,fun _ _=>rfl⟩⟩
/-- Both streams, side by side. -/
structure TB (W w:World) (p n:Nat) (F:List Nat) (s:Rs) (q:Nat) (G:List Nat) (r:Rq):Prop where
 hr:HR W w p n F s
 rv:∃ v0 v4,RvIn w q G v0 v4 r
 lo:∀ k ∈ G,W.heap.size≤k
 dis:∀ k ∈ F,k ∉ G
/-- A block that both streams leave as it is. -/
structure OffB (w:World) (g:Nat) (F G:List Nat) (o:Obj):Prop where
 hp:w.heap[g]?=some o
 hF:g ∉ F
 hG:g ∉ G
/-- A row of bytes that both streams leave as it is. -/
structure RowB (w:World) (F G:List Nat) (A:Option Addr) (bs:List Nat):Prop where
 rf:RowO w F A bs
 rg:RowO w G A bs
theorem TB.goP {n':Nat} (h:TB W w p n F s q G r) (h1:HR W w' p n' F' s') (hg:Goes w w' F F'):TB W w' p n' F' s' q G r:=by
 obtain ⟨v0,v4,h2⟩:=h.rv
 refine ⟨h1,⟨v0,v4,h2.kept hg.1 fun k hk hm=>h.dis k hm hk⟩,h.lo,fun k hk hm=>?_⟩
 rcases hg.2 k hk with hx | hx
 ·exact h.dis k hx hm
 ·have:=h2.hG k hm;omega
theorem TB.goR (h:TB W w p n F s q G r) (h1:∃ v0 v4,RvIn w' q G' v0 v4 r') (hg:Goes w w' G G'):TB W w' p n F s q G' r':=by
 obtain ⟨⟨a,b,k1⟩,k2,k3⟩:=h.hr
 refine ⟨⟨⟨a,b,k1.kept hg.1 h.dis⟩,k2,k3.trans (hg.1.below k3.size h.lo)⟩,h1,fun k hk=>(hg.2 k hk).elim (h.lo k) (fun hh=>Nat.le_trans k3.size hh),fun k hk hm=>?_⟩
 rcases hg.2 k hm with hx | hx
 ·exact h.dis k hk hx
 ·have:=k1.hF k hk;omega
theorem TB.below (h:TB W w p n F s q G r) (hb:Below w.heap.size w w'):TB W w' p n F s q G r:=by
 obtain ⟨v0,v4,h2⟩:=h.rv
 exact ⟨h.hr.below hb,⟨v0,v4,h2.below hb⟩,h.lo,h.dis⟩
theorem OffB.goP {o:Obj} {g:Nat} (h:OffB w g F G o) (hg:Goes w w' F F'):OffB w' g F' G o :=
 ⟨(hg.1.block g (lt_of_block h.hp) h.hF).trans h.hp,fun hm=>(hg.2 g hm).elim h.hF (fun hh=>by have:=lt_of_block h.hp;omega),h.hG⟩
theorem OffB.goR {o:Obj} {g:Nat} (h:OffB w g F G o) (hg:Goes w w' G G'):OffB w' g F G' o :=
 ⟨(hg.1.block g (lt_of_block h.hp) h.hG).trans h.hp,h.hF,fun hm=>(hg.2 g hm).elim h.hG (fun hh=>by have:=lt_of_block h.hp;omega)⟩
theorem OffB.below {o:Obj} {g:Nat} (h:OffB w g F G o) (hb:Below w.heap.size w w'):OffB w' g F G o:=⟨(hb.block g (lt_of_block h.hp)).trans h.hp,h.hF,h.hG⟩
theorem RowO.keep (h:RowO w F A bs) (hg:Goes w w' G G') (hG:RowO w G A bs):RowO w' F A bs:=⟨rd_kept h.1 hg.1 hG.2,h.2⟩
theorem RowB.goP (h:RowB w F G A bs) (hg:Goes w w' F F'):RowB w' F' G A bs:=⟨h.rf.go hg,h.rg.keep hg h.rf⟩
theorem RowB.goR (h:RowB w F G A bs) (hg:Goes w w' G G'):RowB w' F G' A bs:=⟨h.rf.keep hg h.rg,h.rg.go hg⟩
theorem TB.old (h:TB W w p n F s q G r) (hr:Rd W W.heap.size A bs.length (bv bs)):RowB w F G A bs:=by
 have h1:=(hr.below h.hr.low (Nat.le_refl _)).more h.hr.low.size
 refine ⟨⟨h1,fun h0 a ea hm=>?_⟩,⟨h1,fun h0 a ea hm=>?_⟩⟩
 ·obtain ⟨b,off,e,hb,_⟩:=hr.2 h0
  rw [ea] at e;cases e
  have h2:W.heap.size≤b:=h.hr.lo _ hm
  omega
 ·obtain ⟨b,off,e,hb,_⟩:=hr.2 h0
  rw [ea] at e;cases e
  have h2:W.heap.size≤b:=h.lo _ hm
  omega
theorem TB.own {base c:Nat} (h:TB W w p n F s q G r) (hb:Below w.heap.size w w') (ho:w'.ownsRow w.heap.size 5 1 (.slice A bs.length c) bs.length (bv bs)):RowB w' F G A bs:=by
 have h1:=Rd.of_own ho
 rw [Nat.mul_one] at h1
 obtain ⟨v0,v4,k⟩:=h.rv
 refine ⟨⟨h1,fun h0 a ea hm=>?_⟩,⟨h1,fun h0 a ea hm=>?_⟩⟩
 ·have h2:=(ho.lt a.block (by rw [ea];rfl)).1
  have:=h.hr.lt _ hm
  omega
 ·have h2:=(ho.lt a.block (by rw [ea];rfl)).1
  have:=k.hG _ hm
  omega
/-- What RecvTells holds of both behind j calls. -/
structure TM (j n:Nat) (s:Rs) (r:Rq):Prop where
 me:Me r s
 rd:s.rd=s.tk
 rm:s.rm=400
 pot:Pot (j:Int) s.tl s.tk s.top
 len:s.es.length≤2 * j
 cnt:(n:Int)≤cnt s.es
 jb:j≤2199023255488
theorem TM.new:TM 0 0 newR newRq :=
 ⟨⟨rfl,rfl,rfl,rfl,rfl,rfl,rfl,rfl,rfl,rfl,newR_RG _,fun x hx=>by simp [newR,mem,up,oddB] at hx,by show ((0:Nat):Int)≤0;omega⟩,rfl,rfl,Pot.new,Nat.le_refl _,Int.le_refl _,by omega⟩
theorem TM.stay (h:TM j n s r) (hj:j+1≤2199023255488):TM (j+1) n s r:=⟨h.me,h.rd,h.rm,by have:=h.pot.stay;simpa using this,by have:=h.len;omega,h.cnt,hj⟩
theorem TM.bnd (h:TM j n s r):s.tl≤225000000000000∧s.es.length≤4398046511000:=by
 have h1:=h.pot.bound
 have h2:=h.len
 have h3:=h.jb
 exact ⟨by omega,by omega⟩
theorem TM.num (h:TM j n s r):RsNum s:=by
 have h1:=h.me.ri.top
 have h2:=h.bnd
 exact ⟨⟨h1.1,by omega⟩,h.me.ri.tk,by omega⟩
theorem turn_len (es:List Int) (f t:Int) (b:Bool):(turn es f t b).length≤es.length+2:=by
 unfold turn
 split
 ·omega
 ·rename_i hc
  unfold turnF
  have h1:lo es (clamp f)≤up es (clamp t):=List.countP_mono_left fun x _ hx=>by
   simp only [decide_eq_true_eq] at hx ⊢
   omega
  have h2:=up_le_len es (clamp t)
  simp only [List.length_append,List.length_take,List.length_drop]
  have h3:(if (oddB (lo es (clamp f)) != b)=true then [clamp f] else []).length≤1:=by split <;> simp
  have h4:(if (oddB (up es (clamp t)) != b)=true then [clamp t] else []).length≤1:=by split <;> simp
  omega
theorem putS_same (s:Rs) (off:Int) (fin:Bool) (b:List Nat):(putS s off fin b).2.2.rd=s.rd∧(putS s off fin b).2.2.rm=s.rm∧(putS s off fin b).2.2.tl=s.tl∧(putS s off fin b).2.2.tk=s.tk:=by
 unfold putS
 repeat (first | exact ⟨rfl,rfl,rfl,rfl⟩ | split)
theorem breakS_same (s:Rs) (a b c:Int):(breakS s a b c).2.2.rd=s.rd∧(breakS s a b c).2.2.rm=s.rm∧(breakS s a b c).2.2.tl=s.tl∧(breakS s a b c).2.2.tk=s.tk:=by
 unfold breakS
 repeat (first | exact ⟨rfl,rfl,rfl,rfl⟩ | split)
theorem putS_es (s:Rs) (off:Int) (fin:Bool) (b:List Nat):(putS s off fin b).2.2.es.length≤s.es.length+2:=by
 unfold putS
 repeat (first | (show s.es.length≤s.es.length+2;omega) | exact turn_len _ _ _ _ | split)
theorem putS_top (s:Rs) (off:Int) (fin:Bool) (b:List Nat) (h:s.top≤s.tl):s.top≤(putS s off fin b).2.2.top∧(putS s off fin b).2.2.top≤s.tl:=by
 unfold putS
 split
 ·exact ⟨Int.le_refl _,h⟩
 ·split
  ·exact ⟨Int.le_refl _,h⟩
  ·rename_i h1 h2
   have h3:=(refuse_zero (by simpa using h2)).1
   split
   ·exact ⟨Int.le_refl _,h⟩
   ·show s.top≤s.top+upS _ _∧s.top+upS _ _≤s.tl
    unfold upS
    show s.top≤s.top+max ((off+(b.length:Int)) - s.top) 0∧s.top+max ((off+(b.length:Int)) - s.top) 0≤s.tl
    omega
theorem breakS_es (s:Rs) (a b c:Int):(breakS s a b c).2.2.es=s.es:=by
 unfold breakS
 repeat (first | rfl | split)
theorem breakS_top (s:Rs) (a b c:Int) (h:s.top≤s.tl):s.top≤(breakS s a b c).2.2.top∧(breakS s a b c).2.2.top≤s.tl:=by
 unfold breakS
 split
 ·exact ⟨Int.le_refl _,h⟩
 ·split
  ·exact ⟨Int.le_refl _,h⟩
  ·rename_i h1 h2
   have h3:=(refuse_zero (by simpa using h2)).1
   show s.top≤s.top+max (b - s.top) 0∧s.top+max (b - s.top) 0≤s.tl
   omega
theorem TM.put {n':Nat} (h:TM j n s r) (hj:j+1≤2199023255488) (off:Int) (fin:Bool) (b:List Nat) (hm:Me r' (putS s off fin b).2.2) (hn:(n:Int)≤Sp.cnt s.es→(n':Int)≤Sp.cnt (putS s off fin b).2.2.es):TM (j+1) n' (putS s off fin b).2.2 r':=by
 obtain ⟨h1,h2,h3,h4⟩:=putS_same s off fin b
 have h5:=putS_es s off fin b
 have h6:=putS_top s off fin b h.me.ri.top.2
 have h7:=h.pot.put h6.1 h6.2
 exact ⟨hm,by rw [h1,h4];exact h.rd,by rw [h2];exact h.rm,by rw [h3,h4];simpa using h7,by have:=h.len;omega,hn h.cnt,hj⟩
theorem TM.brk (h:TM j n s r) (hj:j+1≤2199023255488) (a b c:Int) (hm:Me r' (breakS s a b c).2.2):TM (j+1) n (breakS s a b c).2.2 r':=by
 obtain ⟨h1,h2,h3,h4⟩:=breakS_same s a b c
 have h5:=breakS_es s a b c
 have h6:=breakS_top s a b c h.me.ri.top.2
 have h7:=h.pot.put h6.1 h6.2
 exact ⟨hm,by rw [h1,h4];exact h.rd,by rw [h2];exact h.rm,by rw [h3,h4];simpa using h7,by rw [h5];have:=h.len;omega,by rw [h5];exact h.cnt,hj⟩
theorem TM.tell (h:TM j n s r) (hj:j+1≤2199023255488):TM (j+1) n (toldS s) (withG r r.rd (max r.tl (r.rd+r.rm)))∧max r.tl (r.rd+r.rm)=max s.tl (s.rd+s.rm):=by
 have e:max r.tl (r.rd+r.rm)=max s.tl (s.rd+s.rm):=by rw [h.me.tl,h.me.rd,h.me.rm]
 have hh:=h.me
 have k3:=h.rd
 have k4:=h.rm
 have k5:=h.me.ri.top
 have k6:=h.pot.tell
 have k7:max s.tl (s.rd+s.rm)=max s.tl (s.tk+400):=by rw [k3,k4]
 have k8:=k6.bound
 have k9:Pot ((j+1:Nat):Int) (toldS s).tl (toldS s).tk (toldS s).top:=by show Pot _ (max s.tl (s.rd+s.rm)) s.tk s.top;rw [k7];simpa using k6
 refine ⟨⟨⟨hh.es,hh.rm,hh.rd,e,hh.top,hh.en,hh.code,hh.sure,hh.br,hh.tk,⟨hh.ri.ok,hh.ri.lt,⟨hh.ri.top.1,?_⟩,?_,hh.ri.tk,hh.ri.kept,hh.ri.had⟩,hh.bl,hh.bt⟩,h.rd,h.rm,k9,by have:=h.len;show s.es.length≤_;omega,h.cnt,hj⟩,e⟩
 ·show s.top≤max s.tl (s.rd+s.rm)
  omega
 ·show max s.tl (s.rd+s.rm)≤1125899906842624
  rw [k7]
  have:=h.jb
  omega
theorem Me.over (h:Me r s):overR r=overS s:=by
 have h1:=h.ri.top
 unfold overR overS
 rw [h.br,h.tk,h.sure,h.en]
 cases s.br <;> cases s.en <;> simp <;> omega
theorem Me.to (h:Me r s) (most:Int):toR r most=s.tk+nS s most:=by
 have hf:=first_spec h.ri.ok s.tk
 have h1:=h.ri.tk
 have h2:firstF s.es s.tk≤s.top:=by
  by_cases hc:firstF s.es s.tk≤s.top
  ·exact hc
  ·have h3:=hf.2.2 s.top h1.2 (by omega)
   have:=(h.ri.lt _ h3).2
   omega
 unfold toR nS readyS
 rw [h.br,h.es,h.tk,h.sure,show max s.tk 0=s.tk by omega]
 obtain ⟨f,hf'⟩:∃ f,firstF s.es s.tk=f:=⟨_,rfl⟩
 rw [hf'] at h2 ⊢
 cases s.br
 ·simp only [Bool.false_eq_true,if_false]
  omega
 ·simp only [if_true]
  omega
theorem TM.take (h:TM j n s r) (hj:j+1≤2199023255488) (most:Int) (m t:Nat) (hmo:most≤249) (hm:nS s most=(m:Int)) (ht:s.tk=(t:Int)) (K':Nat→Nat) (hK:∀ x,t+m≤x→K' x=s.K x) :
  TM (j+1) n (takenS s m K') (withO (withE (withG r (r.rd+Cr.eatF m) r.tl) ((t+m:Nat):Int)) (overR (withE (withG r (r.rd+Cr.eatF m) r.tl) ((t+m:Nat):Int))))∧overR (withE (withG r (r.rd+Cr.eatF m) r.tl) ((t+m:Nat):Int))=overS (takenS s m K')∧seqK s.K t m=(r.bl.drop t).take m∧t+m≤r.bl.length:=by
 have hh:=h.me
 have h1:=hh.ri.take h.num most m t hm ht K' hK
 have h2:=nS_in h.num hh.ri.ok most
 have h3:(m:Int)≤249:=by rw [← hm];unfold nS;omega
 have h4:Cr.eatF (m:Int)=(m:Int):=by unfold Cr.eatF;omega
 have hlen:t+m≤r.bl.length:=by
  by_cases h0:t+m=0
  ·omega
  ·have h5:mem s.es ((t+m - 1:Nat):Int)=true:=h1.1.had ((t+m - 1:Nat):Int) (by omega) (by show ((t+m - 1:Nat):Int)<s.tk+(m:Int);omega)
   have:=hh.bl _ h5
   omega
 have hme:Me (withE (withG r (r.rd+Cr.eatF m) r.tl) ((t+m:Nat):Int)) (takenS s m K') :=
  ⟨hh.es,hh.rm,by show r.rd+Cr.eatF m=s.rd+Cr.eatF m;rw [hh.rd],hh.tl,hh.top,hh.en,hh.code,hh.sure,hh.br,by show ((t+m:Nat):Int)=s.tk+(m:Int);omega,h1.1,hh.bl,hh.bt⟩
 refine ⟨⟨⟨hme.es,hme.rm,hme.rd,hme.tl,hme.top,hme.en,hme.code,hme.sure,hme.br,hme.tk,hme.ri,hme.bl,hme.bt⟩,?_,h.rm,by have h7:=h.pot.take (m:=(m:Int)) (by omega) h3 h1.1.tk.2;exact (show Pot ((j+1:Nat):Int) s.tl (s.tk+(m:Int)) s.top by simpa using h7),by have:=h.len;show s.es.length≤_;omega,h.cnt,hj⟩,hme.over,?_,hlen⟩
 ·show s.rd+Cr.eatF (m:Int)=s.tk+(m:Int)
  rw [h4,h.rd]
 ·rw [h1.2]
  exact take_next r.bl t m hlen
theorem TM.small (h:TM j n s r):s.tl≤225000000000000∧s.tk≤225000000000000∧0≤s.tk∧True:=by
 have h1:=h.bnd
 have h2:=h.me.ri.tk
 have h3:=h.me.ri.top
 exact ⟨h1.1,by omega,h2.1,trivial⟩
/-- What RecvTells holds at each call. -/
def RJ (W w:World) (p q j:Nat):Prop:=∃ n F s G r,TB W w p n F s q G r∧TM j n s r
end
end Go.Proofs.Ytoahkffdoaphlaa.Re
