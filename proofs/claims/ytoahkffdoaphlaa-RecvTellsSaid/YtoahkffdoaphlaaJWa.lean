/- Joined texts. Conditions: as each theorem lists them. -/
import Derived.Test.YtoahkffdoaphlaaJSm
import Derived.Test.YtoahkffdoaphlaaJV1
set_option linter.unusedSimpArgs false
set_option linter.unusedVariables false
set_option maxRecDepth 100000
set_option maxHeartbeats 80000000
namespace Go.Proofs.Ytoahkffdoaphlaa.Se
open Go.Proofs.Ytoahkffdoaphlaa Go.Proofs.Ytoahkffdoaphlaa.Sp
/-- The limit, the top, the id, the bytes, which are lost, which came, finished, the Fin's news, reset, code, sure, the Reset's news. -/
structure St where
 l:Int
 u:Int
 id:Int
 bs:List Nat
 lost:List Int
 came:List Int
 fd:Bool
 fin:Int
 rs:Bool
 code:Int
 sure:Int
 br:Int
def leftS (s:St):Int:=max 0 (s.l - s.u)
def tellN (n:Int):Int:=if n=0∨n=2 then 1 else n
def comeN (n:Int):Int:=if n=0 then 0 else 3
def loseN (n:Int):Int:=if n=1 then 2 else n
def dueN (n:Int):Bool:=decide (n=0∨n=2)
def endS (s:St):Int:=if s.rs=true then s.sure else (s.bs.length:Int)
def hitS (s:St):Bool:=decide (0<s.lost.length) && decide (s.lost.getD 0 0<endS s)
def dueS (s:St) (most:Int):Int × Int :=
 if hitS s=true then (s.lost.getD 0 0,min (s.lost.getD 1 0) (endS s)) else (s.u,s.u+max 0 (min (min most (leftS s)) (endS s - s.u)))
def bareS (s:St) (off:Int):Int:=3+(wid s.id:Int)+(wid off:Int)
def fitS (n room bare:Int):Int:=min (min (min n 120) (room - bare)) (room - bare - (wid (min (min n 120) (room - bare)):Int)+1)
structure Fd where
 off:Int
 n:Int
 fin:Bool
 fresh:Int
def putS (s:St) (a n:Int) (fin:Bool) (fresh:Int):St :=
 ⟨s.l,s.u+fresh,s.id,s.bs,turn s.lost a (a+n) false,s.came,s.fd,if fin=true then tellN s.fin else s.fin,s.rs,s.code,s.sure,s.br⟩
def finS (s:St) (a n:Int):Bool:=s.fd && !s.rs && decide (a+n=(s.bs.length:Int))
def nextS (s:St) (room most:Int):Option (Fd × St) :=
 if room<bareS s (dueS s most).1 then none
 else
  if fitS ((dueS s most).2 - (dueS s most).1) room (bareS s (dueS s most).1)=0∧¬ (finS s (dueS s most).1 (fitS ((dueS s most).2 - (dueS s most).1) room (bareS s (dueS s most).1))=true∧dueN s.fin=true) then none
  else some (⟨(dueS s most).1,fitS ((dueS s most).2 - (dueS s most).1) room (bareS s (dueS s most).1),finS s (dueS s most).1 (fitS ((dueS s most).2 - (dueS s most).1) room (bareS s (dueS s most).1)),max ((dueS s most).1+fitS ((dueS s most).2 - (dueS s most).1) room (bareS s (dueS s most).1) - s.u) 0⟩,
   putS s (dueS s most).1 (fitS ((dueS s most).2 - (dueS s most).1) room (bareS s (dueS s most).1)) (finS s (dueS s most).1 (fitS ((dueS s most).2 - (dueS s most).1) room (bareS s (dueS s most).1))) (max ((dueS s most).1+fitS ((dueS s most).2 - (dueS s most).1) room (bareS s (dueS s most).1) - s.u) 0))
def writeS (s:St) (b:List Nat):Int × St :=
 if s.fd=true∨s.rs=true then (6,s) else if 4000<s.bs.length+b.length then (9,s) else (0,⟨s.l,s.u,s.id,s.bs ++ b,s.lost,s.came,s.fd,s.fin,s.rs,s.code,s.sure,s.br⟩)
def finishS (s:St):Int × St :=
 if s.fd=true∨s.rs=true then (6,s) else (0,⟨s.l,s.u,s.id,s.bs,s.lost,s.came,true,s.fin,s.rs,s.code,s.sure,s.br⟩)
def doneS (s:St):Bool:=(s.fd && decide (s.fin=3) && allF s.came 0 (s.bs.length:Int)) || (s.rs && decide (s.br=3) && allF s.came 0 s.sure)
def resetS (s:St) (code sure:Int):Int × St :=
 if code<0∨4611686018427387903<code∨sure<0∨(s.bs.length:Int)<sure then (1,s)
 else if doneS s=true∨(s.rs=true∧s.sure≤sure) then (6,s)
 else (0,⟨s.l,s.u,s.id,s.bs,s.lost,s.came,s.fd,s.fin,true,if s.rs=true then s.code else code,sure,0⟩)
def turnS (s:St):Option St :=
 if s.rs=false∨s.u<s.sure∨dueN s.br=false then none else some ⟨s.l,s.u,s.id,s.bs,s.lost,s.came,s.fd,s.fin,s.rs,s.code,s.sure,tellN s.br⟩
/-- What a frame tells a stream: its kind, its id, where it lies, B, Fin, how many bytes. -/
structure Fk where
 k:Int
 id:Int
 off:Int
 b:Int
 fin:Bool
 n:Nat
def bytesS (s:St) (f:Fk):Int × Int:=if f.k≠3∨f.id≠s.id then (0,0) else (f.off,min (f.off+f.n) s.u)
/-- 1: the Fin; 2: the Reset; 0: nothing. -/
def newsS (s:St) (f:Fk):Nat :=
 if f.id≠s.id then 0 else if f.k=3∧f.fin=true∧f.off+f.n=(s.bs.length:Int) then 1 else if f.k=4∧f.b=s.sure then 2 else 0
def addAll (es:List Int):List Int→List Int
 | x :: y :: r=>addAll (turn es x y true) r
 | _=>es
def ackS (s:St) (f:Fk):St :=
 ⟨s.l,s.u,s.id,s.bs,turn s.lost (bytesS s f).1 (bytesS s f).2 false,turn s.came (bytesS s f).1 (bytesS s f).2 true,s.fd,if newsS s f=1 then comeN s.fin else s.fin,s.rs,s.code,s.sure,if newsS s f=2 then comeN s.br else s.br⟩
def lostS (s:St) (f:Fk):St :=
 ⟨s.l,s.u,s.id,s.bs,addAll s.lost (gapsF s.came (bytesS s f).1 (bytesS s f).2),s.came,s.fd,if newsS s f=1 then loseN s.fin else s.fin,s.rs,s.code,s.sure,if newsS s f=2 then loseN s.br else s.br⟩
def raiseS (s:St) (n:Int):St:=⟨if s.l<n∧n≤4611686018427387903 then n else s.l,s.u,s.id,s.bs,s.lost,s.came,s.fd,s.fin,s.rs,s.code,s.sure,s.br⟩
structure StOk (s:St):Prop where
 id:0≤s.id∧s.id≤4611686018427387903
 l:s.l≤4611686018427387903
 u:0≤s.u∧s.u≤s.l∧s.u≤(s.bs.length:Int)
 n:s.bs.length≤4000
 by':∀ c ∈ s.bs,c<256
 lost:Ok s.lost
 lostU:∀ e ∈ s.lost,e≤s.u
 came:Ok s.came
 cameU:∀ e ∈ s.came,e≤s.u
 fin:0≤s.fin∧s.fin≤3
 br:0≤s.br∧s.br≤3
 sure:0≤s.sure∧s.sure≤(s.bs.length:Int)
 code:0≤s.code∧s.code≤4611686018427387903
def newS (id:Int):St:=⟨400,0,id,[],[],[],false,0,false,0,0,0⟩
theorem newS_ok (id:Int) (h:0≤id∧id≤4611686018427387903):StOk (newS id) :=
 ⟨h,(by show (400:Int)≤4611686018427387903;decide),⟨(by show (0:Int)≤0;decide),(by show (0:Int)≤400;decide),(by show (0:Int)≤((0:Nat):Int);decide)⟩,(by show (0:Nat)≤4000;decide),(fun c hc=>by cases hc),ok_nil,(fun e he=>by cases he),ok_nil,(fun e he=>by cases he),(by show (0:Int)≤0∧(0:Int)≤3;decide),(by show (0:Int)≤0∧(0:Int)≤3;decide),(by show (0:Int)≤0∧(0:Int)≤((0:Nat):Int);decide),(by show (0:Int)≤0∧(0:Int)≤4611686018427387903;decide)⟩
theorem turn_mem {es:List Int} {f t:Int} {b:Bool} {e:Int} (h:e ∈ turn es f t b):e ∈ es∨(clamp f<clamp t∧(e=clamp f∨e=clamp t)):=by
 unfold turn at h
 split at h
 ·exact .inl h
 ·rename_i hc
  unfold turnF at h
  simp only [List.mem_append] at h
  rcases h with ((h | h) | h) | h
  ·exact .inl (List.mem_of_mem_take h)
  ·refine .inr ⟨by omega,.inl ?_⟩
   split at h <;> simp at h;exact h
  ·refine .inr ⟨by omega,.inr ?_⟩
   split at h <;> simp at h;exact h
  ·exact .inl (List.mem_of_mem_drop h)
theorem turn_le {es:List Int} {f t:Int} {b:Bool} {M:Int} (h:∀ e ∈ es,e≤M) (h0:0≤M) (ht:t≤M):∀ e ∈ turn es f t b,e≤M:=fun e he=>by
 rcases turn_mem he with he | ⟨hc,he⟩
 ·exact h e he
 ·unfold clamp at hc he;omega
theorem gaps_le {es:List Int} {f t:Int} {M:Int} (h:∀ e ∈ es,e≤M) (h0:0≤M) (ht:t≤M):∀ e ∈ gapsF es f t,e≤M:=fun e he=>by
 unfold gapsF at he
 split at he
 ·cases he
 ·rename_i hc
  unfold gapsG at he
  simp only [List.mem_append] at he
  rcases he with (he | he) | he
  ·split at he <;> simp at he;unfold clamp at hc he;omega
  ·exact h e (List.mem_of_mem_drop (List.mem_of_mem_take he))
  ·split at he <;> simp at he;unfold clamp at hc he;omega
theorem addAll_le {M:Int} (h0:0≤M):∀ (r es:List Int),(∀ e ∈ es,e≤M)→(∀ e ∈ r,e≤M)→∀ e ∈ addAll es r,e≤M
 | [],es,h,_=>h
 | [_],es,h,_=>h
 | x :: y :: r,es,h,hr=>addAll_le h0 r _ (turn_le h h0 (hr y (by simp))) fun e he=>hr e (by simp [he])
theorem addAll_ok:∀ (r es:List Int),Ok es→Ok (addAll es r)
 | [],_,h=>h
 | [_],_,h=>h
 | x :: y :: r,es,h=>addAll_ok r _ (ok_turn _ _ _ _ h)
theorem bytesS_le {s:St} (h:StOk s) (f:Fk):(bytesS s f).2≤s.u:=by
 unfold bytesS
 have:=h.u
 split <;> simp only <;> omega
theorem edges_len {s:St} (h:StOk s):s.lost.length≤4001∧s.came.length≤4001:=by
 have h1:=h.u;have h2:=h.n
 exact ⟨small_len h.lost 4000 fun e he=>by have:=h.lostU e he;omega,small_len h.came 4000 fun e he=>by have:=h.cameU e he;omega⟩
theorem hit_two {s:St} (h:StOk s) (hh:0<s.lost.length):1<s.lost.length∧0≤s.lost.getD 0 0∧s.lost.getD 0 0<s.lost.getD 1 0∧s.lost.getD 1 0≤s.u:=by
 have h2:=h.lost.2.1
 have h1:1<s.lost.length:=by omega
 refine ⟨h1,(get_in h.lost 0 hh).1,get_mono h.lost.1 0 1 (by omega) h1,h.lostU _ ?_⟩
 rw [List.getD_eq_getElem?_getD,List.getElem?_eq_getElem h1]
 exact List.getElem_mem _
theorem endS_in {s:St} (h:StOk s):0≤endS s∧endS s≤(s.bs.length:Int):=by
 have:=h.sure
 unfold endS;split <;> omega
theorem dueS_in {s:St} (h:StOk s) (most:Int):0≤(dueS s most).1∧(dueS s most).1≤(dueS s most).2∧(dueS s most).1≤s.u∧(dueS s most).2≤(s.bs.length:Int)∧(hitS s=true→(dueS s most).2≤s.u)∧(hitS s=false→(dueS s most).1=s.u∧(dueS s most).2 - s.u≤leftS s):=by
 have he:=endS_in h
 have hu:=h.u
 unfold dueS
 cases hh:hitS s
 ·rw [if_neg (by decide)]
  refine ⟨hu.1,by simp only;omega,Int.le_refl _,?_,(fun e=>by cases e),fun _=>⟨rfl,?_⟩⟩
  ·simp only;omega
  ·unfold leftS;simp only;omega
 ·rw [if_pos rfl]
  unfold hitS at hh
  simp only [Bool.and_eq_true,decide_eq_true_eq] at hh
  obtain ⟨h1,h2,h3,h4⟩:=hit_two h hh.1
  refine ⟨h2,by simp only;omega,by simp only;omega,by simp only;omega,fun _=>by simp only;omega,fun e=>by cases e⟩
theorem fitS_in (n room bare:Int) (hn:0≤n) (hr:bare≤room):0≤fitS n room bare∧fitS n room bare≤n∧fitS n room bare≤120∧fitS n room bare≤room - bare:=by
 unfold fitS
 obtain ⟨m,hm⟩:∃ m,min (min n 120) (room - bare)=m:=⟨_,rfl⟩
 rw [hm]
 have h1:(wid m:Int)≤m+1:=by
  have h0:0≤m:=by omega
  have h2:m≤120:=by omega
  unfold wid
  rw [if_neg (by omega)]
  split
  ·show (1:Int)≤_;omega
  ·rw [if_pos (by omega)];show (2:Int)≤_;omega
 have h3:(wid m:Int)≤2:=by
  have h0:0≤m:=by omega
  have h2:m≤120:=by omega
  unfold wid
  rw [if_neg (by omega)]
  split
  ·show (1:Int)≤_;omega
  ·rw [if_pos (by omega)];show (2:Int)≤_;omega
 have h4:room - bare<64→(wid m:Int)≤1:=fun hb=>by
  unfold wid
  rw [if_neg (by omega),if_pos (by omega)]
  show (1:Int)≤_;omega
 omega
theorem news_in (n:Int) (h:0≤n∧n≤3):(0≤tellN n∧tellN n≤3)∧(0≤comeN n∧comeN n≤3)∧(0≤loseN n∧loseN n≤3):=by
 unfold tellN comeN loseN
 refine ⟨by split <;> omega,by split <;> omega,by split <;> omega⟩
theorem StOk.write {s:St} (h:StOk s) (b:List Nat) (hb:∀ c ∈ b,c<256):StOk (writeS s b).2:=by
 unfold writeS
 split
 ·exact h
 ·split
  ·exact h
  ·rename_i hl
   refine ⟨h.id,h.l,?_,?_,?_,h.lost,h.lostU,h.came,h.cameU,h.fin,h.br,?_,h.code⟩
   ·have:=h.u;simp only [List.length_append];omega
   ·simp only [List.length_append];omega
   ·intro c hc
    simp only [List.mem_append] at hc
    rcases hc with hc | hc
    ·exact h.by' c hc
    ·exact hb c hc
   ·have:=h.sure;simp only [List.length_append];omega
theorem StOk.finish {s:St} (h:StOk s):StOk (finishS s).2:=by
 unfold finishS
 split
 ·exact h
 ·exact ⟨h.id,h.l,h.u,h.n,h.by',h.lost,h.lostU,h.came,h.cameU,h.fin,h.br,h.sure,h.code⟩
theorem StOk.reset {s:St} (h:StOk s) (code sure:Int):StOk (resetS s code sure).2:=by
 unfold resetS
 split
 ·exact h
 ·rename_i h1
  split
  ·exact h
  ·refine ⟨h.id,h.l,h.u,h.n,h.by',h.lost,h.lostU,h.came,h.cameU,h.fin,(by show (0:Int)≤0∧(0:Int)≤3;decide),?_,?_⟩
   ·simp only;omega
   ·have:=h.code
    simp only
    split <;> omega
theorem StOk.turned {s s':St} (h:StOk s) (ht:turnS s=some s'):StOk s':=by
 unfold turnS at ht
 split at ht
 ·cases ht
 ·cases ht
  exact ⟨h.id,h.l,h.u,h.n,h.by',h.lost,h.lostU,h.came,h.cameU,h.fin,(news_in _ h.br).1,h.sure,h.code⟩
theorem StOk.ack {s:St} (h:StOk s) (f:Fk):StOk (ackS s f):=by
 have hb:=bytesS_le h f
 have hu:=h.u
 refine ⟨h.id,h.l,h.u,h.n,h.by',ok_turn _ _ _ _ h.lost,turn_le h.lostU hu.1 hb,ok_turn _ _ _ _ h.came,turn_le h.cameU hu.1 hb,?_,?_,h.sure,h.code⟩
 ·show 0≤(if newsS s f=1 then comeN s.fin else s.fin)∧(if newsS s f=1 then comeN s.fin else s.fin)≤3
  split
  ·exact (news_in _ h.fin).2.1
  ·exact h.fin
 ·show 0≤(if newsS s f=2 then comeN s.br else s.br)∧(if newsS s f=2 then comeN s.br else s.br)≤3
  split
  ·exact (news_in _ h.br).2.1
  ·exact h.br
theorem StOk.lose {s:St} (h:StOk s) (f:Fk):StOk (lostS s f):=by
 have hb:=bytesS_le h f
 have hu:=h.u
 refine ⟨h.id,h.l,h.u,h.n,h.by',addAll_ok _ _ h.lost,addAll_le hu.1 _ _ h.lostU (gaps_le h.cameU hu.1 hb),h.came,h.cameU,?_,?_,h.sure,h.code⟩
 ·show 0≤(if newsS s f=1 then loseN s.fin else s.fin)∧(if newsS s f=1 then loseN s.fin else s.fin)≤3
  split
  ·exact (news_in _ h.fin).2.2
  ·exact h.fin
 ·show 0≤(if newsS s f=2 then loseN s.br else s.br)∧(if newsS s f=2 then loseN s.br else s.br)≤3
  split
  ·exact (news_in _ h.br).2.2
  ·exact h.br
theorem StOk.raise {s:St} (h:StOk s) (n:Int):StOk (raiseS s n):=by
 have hl:=h.l;have hu:=h.u
 refine ⟨h.id,?_,?_,h.n,h.by',h.lost,h.lostU,h.came,h.cameU,h.fin,h.br,h.sure,h.code⟩
 ·show (if s.l<n∧n≤4611686018427387903 then n else s.l)≤_
  split <;> omega
 ·show 0≤s.u∧s.u≤(if s.l<n∧n≤4611686018427387903 then n else s.l)∧s.u≤(s.bs.length:Int)
  split <;> omega
/-- What Next tells, said by its parts. -/
structure NextI (s:St) (room most a n:Int) (fin:Bool) (fresh:Int):Prop where
 ea:a=(dueS s most).1
 en:n=fitS ((dueS s most).2 - (dueS s most).1) room (bareS s a)
 ef:fin=finS s a n
 er:fresh=max (a+n - s.u) 0
 room':bareS s a≤room
 some':¬ (n=0∧¬ (fin=true∧dueN s.fin=true))
theorem next_some {s s':St} {room most:Int} {f:Fd} (h:nextS s room most=some (f,s')):NextI s room most f.off f.n f.fin f.fresh∧s'=putS s f.off f.n f.fin f.fresh:=by
 unfold nextS at h
 split at h
 ·cases h
 ·rename_i h1
  split at h
  ·cases h
  ·rename_i h2
   cases h
   exact ⟨⟨rfl,rfl,rfl,rfl,by simp only;omega,h2⟩,rfl⟩
theorem next_of {s:St} {room most a n:Int} {fin:Bool} {fresh:Int} (h:NextI s room most a n fin fresh):nextS s room most=some (⟨a,n,fin,fresh⟩,putS s a n fin fresh):=by
 obtain ⟨rfl,rfl,rfl,rfl,h1,h2⟩:=h
 unfold nextS
 rw [if_neg (by omega),if_neg h2]
theorem NextI.facts {s:St} {room most a n:Int} {fin:Bool} {fresh:Int} (hs:StOk s) (h:NextI s room most a n fin fresh) :
  0≤a∧0≤n∧n≤120∧a≤s.u∧a+n≤(s.bs.length:Int)∧0≤fresh∧fresh≤leftS s∧s.u+fresh=max s.u (a+n)∧(0<fresh→a=s.u)∧n≤(dueS s most).2 - (dueS s most).1:=by
 have hd:=dueS_in hs most
 have hf:=fitS_in ((dueS s most).2 - (dueS s most).1) room (bareS s a) (by omega) h.room'
 rw [← h.en] at hf
 rw [← h.ea] at hd
 have h4:=h.er
 have hle:0≤leftS s:=by unfold leftS;omega
 rw [← h.ea] at hf
 cases hh:hitS s
 ·have:=hd.2.2.2.2.2 hh
  rw [← h.ea]
  refine ⟨hd.1,hf.1,hf.2.2.1,hd.2.2.1,by omega,by omega,by omega,by omega,fun _=>by omega,hf.2.1⟩
 ·have:=hd.2.2.2.2.1 hh
  rw [← h.ea]
  refine ⟨hd.1,hf.1,hf.2.2.1,hd.2.2.1,by omega,by omega,by omega,by omega,fun _=>by omega,hf.2.1⟩
theorem StOk.put {s:St} {room most a n:Int} {fin:Bool} {fresh:Int} (hs:StOk s) (h:NextI s room most a n fin fresh):StOk (putS s a n fin fresh):=by
 obtain ⟨h1,h2,h3,h4,h5,h6,h7,h8,h9,h10⟩:=h.facts hs
 have hu:=hs.u;have hl:=hs.l
 unfold leftS at h7
 refine ⟨hs.id,hs.l,?_,hs.n,hs.by',ok_turn _ _ _ _ hs.lost,?_,hs.came,?_,?_,hs.br,hs.sure,hs.code⟩
 ·show 0≤s.u+fresh∧s.u+fresh≤s.l∧s.u+fresh≤(s.bs.length:Int);omega
 ·show ∀ e ∈ turn s.lost a (a+n) false,e≤s.u+fresh
  exact turn_le (fun e he=>by have:=hs.lostU e he;omega) (by omega) (by omega)
 ·show ∀ e ∈ s.came,e≤s.u+fresh
  exact fun e he=>by have:=hs.cameU e he;omega
 ·show 0≤(if fin=true then tellN s.fin else s.fin)∧(if fin=true then tellN s.fin else s.fin)≤3
  split
  ·exact (news_in _ hs.fin).1
  ·exact hs.fin
end Go.Proofs.Ytoahkffdoaphlaa.Se
