/- Joined texts. Conditions: as each theorem lists them. -/
import Derived.Test.YtoahkffdoaphlaaJWa
set_option linter.unusedSimpArgs false
set_option linter.unusedVariables false
set_option maxRecDepth 100000
set_option maxHeartbeats 80000000
namespace Go.Proofs.Ytoahkffdoaphlaa.Se
open Go.Proofs.Ytoahkffdoaphlaa Go.Proofs.Ytoahkffdoaphlaa.Sp Go.Proofs.Ytoahkffdoaphlaa.Sp.Ref
/-- What is left to do of lost runs that begin below E: 50 a run, and its bytes. -/
def wt (E:Int):List Int→Int
 | a :: b :: r=>(if a<E then 50+(min b E - a) else 0)+wt E r
 | _=>0
theorem ok_tail2 {a b:Int} {r:List Int} (h:Ok (a :: b :: r)):Ok r∧a<b∧∀ e ∈ r,b<e:=by
 obtain ⟨h1,h2,h3⟩:=h
 rw [List.pairwise_cons,List.pairwise_cons] at h1
 refine ⟨⟨h1.2.2,by simp at h2;omega,fun e he=>h3 e (by simp [he])⟩,h1.1 b (by simp),fun e he=>h1.2.1 e he⟩
theorem wt_pos (E:Int):∀ es:List Int,Ok es→0≤wt E es
 | [],_=>Int.le_refl _
 | [_],_=>Int.le_refl _
 | a :: b :: r,h=>by
   have:=wt_pos E r (ok_tail2 h).1
   have:=(ok_tail2 h).2.1
   show 0≤(if a<E then 50+(min b E - a) else 0)+wt E r
   split <;> omega
theorem wt_snoc (E x y:Int):∀ es:List Int,es.length % 2=0→wt E (es ++ [x,y])=wt E es+(if x<E then 50+(min y E - x) else 0)
 | [],_=>by show (if x<E then 50+(min y E - x) else 0)+0=0+_;omega
 | [_],h=>by simp at h
 | a :: b :: r,h=>by
   have:=wt_snoc E x y r (by simp at h;omega)
   show (if a<E then 50+(min b E - a) else 0)+wt E (r ++ [x,y])=_
   rw [this]
   show _=(if a<E then 50+(min b E - a) else 0)+wt E r+_
   omega
theorem even_snoc:∀ es:List Int,es.length % 2=0→es=[]∨∃ pre x y,es=pre ++ [x,y]∧pre.length % 2=0
 | [],_=>.inl rfl
 | [_],h=>by simp at h
 | a :: b :: r,h=>by
   refine .inr ?_
   rcases even_snoc r (by simp at h;omega) with rfl | ⟨pre,x,y,rfl,hp⟩
   ·exact ⟨[],a,b,rfl,rfl⟩
   ·exact ⟨a :: b :: pre,x,y,rfl,by simp;omega⟩
theorem clamp_id {n:Int} (h:0≤n) (h2:n≤4611686018427387904):clamp n=n:=by unfold clamp;omega
/-- Of the first run its beginning is dropped. -/
theorem drop_first {a b n:Int} {r:List Int} (h:Ok (a :: b :: r)) (hn:0<n) (hb:a+n≤b):turn (a :: b :: r) a (a+n) false=if a+n=b then r else (a+n) :: b :: r:=by
 obtain ⟨hr,hab,hrb⟩:=ok_tail2 h
 have ha:=h.2.2 a (by simp)
 have hb':=h.2.2 b (by simp)
 have hl:lo (a :: b :: r) a=0:=lo_zero _ _ fun x hx=>by
  simp only [List.mem_cons] at hx
  rcases hx with rfl | rfl | hx
  ·omega
  ·omega
  ·have:=hrb x hx;omega
 have hz:∀ x ∈ r,a+n<x:=fun x hx=>by have:=hrb x hx;omega
 have e:turn (a :: b :: r) a (a+n) false=turnF (a :: b :: r) a (a+n) false:=by
  unfold turn
  rw [clamp_id ha.1 ha.2,clamp_id (by omega) (by omega),if_neg (by omega)]
 rw [e]
 unfold turnF
 rw [hl]
 by_cases he:a+n=b
 ·have hu:up (a :: b :: r) (a+n)=2:=by rw [up_cons,up_cons,up_zero r _ hz,if_pos (by omega),if_pos (by omega)]
  rw [hu,if_pos he]
  rfl
 ·have hu:up (a :: b :: r) (a+n)=1:=by rw [up_cons,up_cons,up_zero r _ hz,if_pos (by omega),if_neg (by omega)]
  rw [hu,if_neg he]
  rfl
theorem mem_first:∀ {es:List Int},Ok es→1<es.length→∀ x,es.getD 0 0≤x→x<es.getD 1 0→mem es x=true
 | [],_,h,_,_,_=>by simp at h
 | [_],_,h,_,_,_=>by simp at h
 | a :: b :: r,h,_,x,h1,h2=>by
   rw [mem_pair a b r x h.1]
   have h1':a≤x:=h1
   have h2':x<b:=h2
   simp [h1',h2']
theorem wt_drop {a b n E:Int} {r:List Int} (h:Ok (a :: b :: r)) (haE:a<E) (hn:0<n) (hb:a+n≤min b E):wt E (turn (a :: b :: r) a (a+n) false)≤wt E (a :: b :: r) - n∧((n=min b E - a∨50≤n)→wt E (turn (a :: b :: r) a (a+n) false)≤wt E (a :: b :: r) - 50):=by
 have hr:=wt_pos E r (ok_tail2 h).1
 have hab:=(ok_tail2 h).2.1
 rw [drop_first h hn (by omega)]
 have e:wt E (a :: b :: r)=50+(min b E - a)+wt E r:=by show (if a<E then 50+(min b E - a) else 0)+wt E r=_;rw [if_pos haE]
 rw [e]
 split
 ·exact ⟨by omega,fun _=>by omega⟩
 ·have e2:wt E ((a+n) :: b :: r)=(if a+n<E then 50+(min b E - (a+n)) else 0)+wt E r:=rfl
  rw [e2]
  split
  ·exact ⟨by omega,fun hx=>by omega⟩
  ·exact ⟨by omega,fun hx=>by omega⟩
theorem ok_two {u t:Int} (h0:0≤u) (hut:u<t) (hT:t≤4611686018427387904):Ok [u,t]:=by
 have:=ok_snoc ok_nil u t h0 hut hT (fun e he=>by cases he)
 simpa using this
theorem mem_none_of {es:List Int} (h:Ok es) {u x:Int} (he:∀ e ∈ es,e≤u) (hx:u≤x):mem es x=false:=by
 unfold mem
 rw [up_all es x fun e hm=>by have:=he e hm;omega]
 unfold oddB
 have:=h.2.1
 simp;omega
theorem mem_lt_of {es:List Int} (h:Ok es) {u x:Int} (he:∀ e ∈ es,e≤u) (hx:mem es x=true):x<u:=by
 rcases Int.lt_or_le x u with h1 | h1
 ·exact h1
 ·rw [mem_none_of h he h1] at hx;cases hx
theorem mem_nonneg {es:List Int} (h:Ok es) {x:Int} (hx:mem es x=true):0≤x:=by
 rcases Int.lt_or_le x 0 with h1 | h1
 ·rw [mem_out h x (.inl h1)] at hx;cases hx
 ·exact h1
/-- Above all edges a run is added: what is left grows by 50 and its bytes at the most. -/
theorem wt_add {es:List Int} (h:Ok es) {u t E:Int} (he:∀ e ∈ es,e≤u) (h0:0≤u) (hut:u<t) (hT:t≤4611686018427387904) (htE:t≤E):wt E (turn es u t true)≤wt E es+50+(t - u):=by
 rcases even_snoc es h.2.1 with rfl | ⟨pre,x,y,rfl,hp⟩
 ·have e:turn [] u t true=[u,t]:=ok_eq (ok_turn _ _ _ _ ok_nil) (ok_two h0 hut hT) fun n=>by
   rw [mem_turn _ _ _ _ ok_nil,clamp_id h0 (by omega),clamp_id (by omega) hT,mem_pair u t [] n (ok_two h0 hut hT).1]
   rw [show mem [] n=false from rfl]
   by_cases hc:u≤n∧n<t
   ·rw [if_pos hc];simp [hc.1,hc.2]
   ·rw [if_neg hc];simp;omega
  rw [e]
  show (if u<E then 50+(min t E - u) else 0)+0≤0+50+(t - u)
  split <;> omega
 ·have hxy:x<y∧(∀ e ∈ pre,e<x):=by
   have h1:=h.1
   rw [List.pairwise_append] at h1
   refine ⟨by have:=h1.2.1;simp at this;exact this,fun e he'=>h1.2.2 e he' x (by simp)⟩
  have hpre:Ok pre:=by
   refine ⟨(List.pairwise_append.1 h.1).1,hp,fun e he'=>h.2.2 e (by simp [he'])⟩
  have hx0:=h.2.2 x (by simp)
  have hy:=he y (by simp)
  by_cases hyu:y=u
  ·subst hyu
   have hok2:Ok (pre ++ [x,t]):=ok_snoc hpre x t hx0.1 (by omega) hT hxy.2
   have e:turn (pre ++ [x,y]) y t true=pre ++ [x,t]:=ok_eq (ok_turn _ _ _ _ h) hok2 fun n=>by
    rw [mem_turn _ _ _ _ h,clamp_id h0 (by omega),clamp_id (by omega) hT,mem_snoc pre x y n h.1 hp,mem_snoc pre x t n hok2.1 hp]
    unfold inRun
    simp only
    by_cases hc:y≤n∧n<t
    ·rw [if_pos hc];simp;right;omega
    ·rw [if_neg hc];congr 1;rw [← Bool.decide_and,← Bool.decide_and,decide_eq_decide];omega
   rw [e,wt_snoc _ _ _ _ hp,wt_snoc _ _ _ _ hp]
   split <;> omega
  ·have hok2:Ok ((pre ++ [x,y]) ++ [u,t]):=ok_snoc h u t h0 hut hT fun e he'=>by
    have h1:=he e he'
    rcases Int.lt_or_le e u with h2 | h2
    ·exact h2
    ·simp only [List.mem_append,List.mem_cons,List.not_mem_nil,or_false] at he'
     rcases he' with he' | rfl | rfl
     ·have:=hxy.2 e he';omega
     ·omega
     ·omega
   have e:turn (pre ++ [x,y]) u t true=(pre ++ [x,y]) ++ [u,t]:=ok_eq (ok_turn _ _ _ _ h) hok2 fun n=>by
    rw [mem_turn _ _ _ _ h,clamp_id h0 (by omega),clamp_id (by omega) hT,mem_snoc (pre ++ [x,y]) u t n hok2.1 h.2.1]
    unfold inRun
    simp only
    by_cases hc:u≤n∧n<t
    ·rw [if_pos hc];simp;right;omega
    ·rw [if_neg hc];rw [show (decide (u≤n) && decide (n<t))=false by simp;omega,Bool.or_false]
   rw [e,wt_snoc _ _ _ _ h.2.1]
   split <;> omega
/-- Where nothing came, all of it is a gap. -/
theorem gaps_whole {es:List Int} (h:Ok es) {f t:Int} (h0:0≤f) (hft:f<t) (hT:t≤4611686018427387904) (hn:∀ x,f≤x→x<t→mem es x=false):gapsF es f t=[f,t] :=
 ok_eq (ok_gaps h f t) (ok_two h0 hft hT) fun x=>by
  rw [mem_gaps h,clamp_id h0 (by omega),clamp_id (by omega) hT,mem_pair f t [] x (ok_two h0 hft hT).1,show mem [] x=false from rfl,Bool.or_false]
  by_cases hc:f≤x∧x<t
  ·rw [hn x hc.1 hc.2];simp
  ·rw [decide_eq_false hc];simp;omega
/-- Each frame was settled at once. -/
structure Pr (s:St):Prop where
 ok:StOk s
 dis:∀ x,mem s.lost x=true→mem s.came x=false
 cov:∀ x,0≤x→x<s.u→mem s.came x=true∨mem s.lost x=true
/-- What is left to do of bytes. -/
def psi (s:St):Int:=wt (endS s) s.lost+max 0 (endS s - s.u)+(if s.u<endS s then 50 else 0)
theorem psi_pos {s:St} (h:StOk s):0≤psi s:=by
 have:=wt_pos (endS s) _ h.lost
 unfold psi;split <;> omega
/-- The frame that Next made. -/
def fkOf (s:St) (a:Int) (n:Nat) (fin:Bool):Fk:=⟨3,s.id,a,0,fin,n⟩
theorem fk_bytes {s:St} {room most a:Int} {n:Nat} {fin:Bool} {fresh:Int} (hs:StOk s) (h:NextI s room most a n fin fresh):bytesS (putS s a n fin fresh) (fkOf s a n fin)=(a,a+n):=by
 have h8:=(h.facts hs).2.2.2.2.2.2.2.1
 unfold bytesS
 rw [if_neg (by show ¬ ((3:Int)≠3∨s.id≠s.id);simp)]
 show (a,min (a+(n:Int)) (s.u+fresh))=_
 rw [h8,Int.min_eq_left (by omega)]
/-- What a frame settled does: its bytes come, or are lost (again). -/
theorem Pr.settle {s:St} {room most a:Int} {n:Nat} {fin:Bool} {fresh:Int} (hp:Pr s) (h:NextI s room most a n fin fresh) :
  (ackS (putS s a n fin fresh) (fkOf s a n fin)).lost=turn s.lost a (a+n) false∧(ackS (putS s a n fin fresh) (fkOf s a n fin)).came=turn s.came a (a+n) true ∧
  (lostS (putS s a n fin fresh) (fkOf s a n fin)).lost=turn s.lost a (a+n) true∧(lostS (putS s a n fin fresh) (fkOf s a n fin)).came=s.came:=by
 have hs:=hp.ok
 obtain ⟨h1,h2,h3,h4,h5,h6,h7,h8,h9,h10⟩:=h.facts hs
 have hb:=fk_bytes hs h
 have hu:=hs.u;have hn4:=hs.n
 have hT:a+(n:Int)≤4611686018427387904:=by omega
 have twice:turn (turn s.lost a (a+n) false) a (a+n) false=turn s.lost a (a+n) false:=ok_eq (ok_turn _ _ _ _ (ok_turn _ _ _ _ hs.lost)) (ok_turn _ _ _ _ hs.lost) fun x=>by
  rw [mem_turn _ _ _ _ (ok_turn _ _ _ _ hs.lost),mem_turn _ _ _ _ hs.lost]
  split <;> rfl
 have back:turn (turn s.lost a (a+n) false) a (a+n) true=turn s.lost a (a+n) true:=ok_eq (ok_turn _ _ _ _ (ok_turn _ _ _ _ hs.lost)) (ok_turn _ _ _ _ hs.lost) fun x=>by
  rw [mem_turn _ _ _ _ (ok_turn _ _ _ _ hs.lost),mem_turn _ _ _ _ hs.lost,mem_turn _ _ _ _ hs.lost]
  split <;> rfl
 refine ⟨?_,?_,?_,rfl⟩
 ·show turn (turn s.lost a (a+n) false) (bytesS _ _).1 (bytesS _ _).2 false=_
  rw [hb];exact twice
 ·show turn s.came (bytesS _ _).1 (bytesS _ _).2 true=_
  rw [hb]
 ·show addAll (turn s.lost a (a+n) false) (gapsF s.came (bytesS _ _).1 (bytesS _ _).2)=_
  rw [hb]
  rcases Nat.eq_zero_or_pos n with h0 | h0
  ·subst h0
   have e:gapsF s.came a (a+((0:Nat):Int))=[]:=by unfold gapsF;rw [if_pos (by show clamp (a+0)≤_;rw [Int.add_zero];exact Int.le_refl _)]
   show addAll _ (gapsF s.came a (a+((0:Nat):Int)))=_
   rw [e]
   show turn s.lost a (a+0) false=turn s.lost a (a+0) true
   unfold turn
   rw [Int.add_zero,if_pos (Int.le_refl _),if_pos (Int.le_refl _)]
  ·have e:gapsF s.came a (a+n)=[a,a+n]:=gaps_whole hs.came h1 (by omega) hT fun x hx1 hx2=>by
    cases hh:hitS s
    ·have hd:=(dueS_in hs most).2.2.2.2.2 hh
     rw [← h.ea] at hd
     exact mem_none_of hs.came hs.cameU (by omega)
    ·have e2:hitS s=true:=hh
     unfold hitS at hh
     simp only [Bool.and_eq_true,decide_eq_true_eq] at hh
     obtain ⟨g1,g2,g3,g4⟩:=hit_two hs hh.1
     have hea:=h.ea
     unfold dueS at hea h10
     rw [if_pos e2] at hea h10
     simp only at hea h10
     cases hm:mem s.came x
     ·rfl
     ·have hl:mem s.lost x=true:=by
       exact mem_first hs.lost g1 x (by omega) (by omega)
      rw [hp.dis x hl] at hm;cases hm
   rw [e]
   exact back
section
variable {s:St} {room most a:Int} {n:Nat} {fin:Bool} {fresh:Int}
/-- Where its bytes lie: of the first lost run, or from the top on. -/
theorem NextI.where' (hs:StOk s) (h:NextI s room most a n fin fresh) :
  (hitS s=true∧1<s.lost.length∧a=s.lost.getD 0 0∧a<endS s∧a+n≤min (s.lost.getD 1 0) (endS s)∧s.lost.getD 1 0≤s.u∧(dueS s most).2=min (s.lost.getD 1 0) (endS s)) ∨
  (hitS s=false∧a=s.u∧(0<n→a+n≤endS s∧a+n≤s.l)∧(dueS s most).2=s.u+max 0 (min (min most (leftS s)) (endS s - s.u))):=by
 obtain ⟨h1,h2,h3,h4,h5,h6,h7,h8,h9,h10⟩:=h.facts hs
 have hea:=h.ea
 cases hh:hitS s
 ·refine .inr ⟨rfl,?_⟩
  have hd:dueS s most=(s.u,s.u+max 0 (min (min most (leftS s)) (endS s - s.u))):=by unfold dueS;rw [hh];rfl
  rw [hd] at hea h10 ⊢
  refine ⟨hea,fun h0=>?_,rfl⟩
  simp only at hea h10
  unfold leftS at h10
  omega
 ·refine .inl ⟨rfl,?_⟩
  have e2:=hh
  unfold hitS at hh
  simp only [Bool.and_eq_true,decide_eq_true_eq] at hh
  obtain ⟨g1,g2,g3,g4⟩:=hit_two hs hh.1
  have hd:dueS s most=(s.lost.getD 0 0,min (s.lost.getD 1 0) (endS s)):=by unfold dueS;rw [e2];rfl
  rw [hd] at hea h10 ⊢
  simp only at hea h10
  exact ⟨g1,hea,by omega,by omega,g4,rfl⟩
/-- None of its bytes came. -/
theorem Pr.fresh' (hp:Pr s) (h:NextI s room most a n fin fresh) (x:Int) (h1:a≤x) (h2:x<a+n):mem s.came x=false:=by
 have hs:=hp.ok
 rcases h.where' hs with ⟨_,g1,g2,_,g3,_⟩ | ⟨_,g1,_⟩
 ·exact hp.dis x (mem_first hs.lost g1 x (by omega) (by omega))
 ·exact mem_none_of hs.came hs.cameU (by omega)
theorem Pr.ack (hp:Pr s) (h:NextI s room most a n fin fresh):Pr (ackS (putS s a n fin fresh) (fkOf s a n fin)):=by
 have hs:=hp.ok
 obtain ⟨h1,h2,h3,h4,h5,h6,h7,h8,h9,h10⟩:=h.facts hs
 obtain ⟨e1,e2,_,_⟩:=hp.settle h
 have hu:=hs.u;have hn4:=hs.n
 have c1:clamp a=a:=clamp_id h1 (by omega)
 have c2:clamp (a+n)=a+n:=clamp_id (by omega) (by omega)
 refine ⟨(hs.put h).ack _,fun x hx=>?_,fun x hx0 hx1=>?_⟩
 ·rw [e1,mem_turn _ _ _ _ hs.lost,c1,c2] at hx
  rw [e2,mem_turn _ _ _ _ hs.came,c1,c2]
  split at hx
  ·cases hx
  ·rename_i hc;rw [if_neg hc];exact hp.dis x hx
 ·have hx2:x<s.u+fresh:=hx1
  rw [e1,e2,mem_turn _ _ _ _ hs.lost,mem_turn _ _ _ _ hs.came,c1,c2]
  by_cases hc:a≤x∧x<a+n
  ·rw [if_pos hc];exact .inl rfl
  ·rw [if_neg hc,if_neg hc];exact hp.cov x hx0 (by omega)
theorem Pr.lose (hp:Pr s) (h:NextI s room most a n fin fresh):Pr (lostS (putS s a n fin fresh) (fkOf s a n fin)):=by
 have hs:=hp.ok
 obtain ⟨h1,h2,h3,h4,h5,h6,h7,h8,h9,h10⟩:=h.facts hs
 obtain ⟨_,_,e1,e2⟩:=hp.settle h
 have hu:=hs.u;have hn4:=hs.n
 have c1:clamp a=a:=clamp_id h1 (by omega)
 have c2:clamp (a+n)=a+n:=clamp_id (by omega) (by omega)
 refine ⟨(hs.put h).lose _,fun x hx=>?_,fun x hx0 hx1=>?_⟩
 ·rw [e1,mem_turn _ _ _ _ hs.lost,c1,c2] at hx
  rw [e2]
  split at hx
  ·rename_i hc;exact hp.fresh' h x hc.1 hc.2
  ·exact hp.dis x hx
 ·have hx2:x<s.u+fresh:=hx1
  rw [e1,e2,mem_turn _ _ _ _ hs.lost,c1,c2]
  by_cases hc:a≤x∧x<a+n
  ·rw [if_pos hc];exact .inr rfl
  ·rw [if_neg hc];exact hp.cov x hx0 (by omega)
/-- How much is left: lost runs, and what may be sent. -/
def phi (s:St):Int:=wt (endS s) s.lost+max 0 (min (endS s) s.l - s.u)+(if s.u<min (endS s) s.l then 50 else 0)
theorem phi_pos (hs:StOk s):0≤phi s:=by
 have:=wt_pos (endS s) _ hs.lost
 unfold phi;split <;> omega
theorem turn_same (es:List Int) (f:Int) (b:Bool):turn es f f b=es:=by unfold turn;rw [if_pos (Int.le_refl _)]
theorem turn_above {es:List Int} (h:Ok es) {u t:Int} (he:∀ e ∈ es,e≤u) (h0:0≤u) (hut:u≤t) (hT:t≤4611686018427387904):turn es u t false=es :=
 ok_eq (ok_turn _ _ _ _ h) h fun x=>by
  rw [mem_turn _ _ _ _ h,clamp_id h0 (by omega),clamp_id (by omega) hT]
  split
  ·rename_i hc;rw [mem_none_of h he hc.1]
  ·rfl
theorem turn_within {es:List Int} (h:Ok es) {f t:Int} (h0:0≤f) (hft:f≤t) (hT:t≤4611686018427387904) (hm:∀ x,f≤x→x<t→mem es x=true):turn es f t true=es :=
 ok_eq (ok_turn _ _ _ _ h) h fun x=>by
  rw [mem_turn _ _ _ _ h,clamp_id h0 (by omega),clamp_id (by omega) hT]
  split
  ·rename_i hc;rw [hm x hc.1 hc.2]
  ·rfl
theorem phi_ack (hp:Pr s) (h:NextI s room most a n fin fresh) (hm:min (endS s) s.l - s.u≤most) :
  phi (ackS (putS s a n fin fresh) (fkOf s a n fin))≤phi s∧(0<n→((n:Int)=(dueS s most).2 - (dueS s most).1∨50≤n)→phi (ackS (putS s a n fin fresh) (fkOf s a n fin))≤phi s - 50):=by
 have hs:=hp.ok
 obtain ⟨h1,h2,h3,h4,h5,h6,h7,h8,h9,h10⟩:=h.facts hs
 obtain ⟨e1,e2,_,_⟩:=hp.settle h
 have hu:=hs.u;have hn4:=hs.n
 have e:phi (ackS (putS s a n fin fresh) (fkOf s a n fin))=wt (endS s) (turn s.lost a (a+n) false)+max 0 (min (endS s) s.l - (s.u+fresh))+(if s.u+fresh<min (endS s) s.l then 50 else 0):=by rw [← e1];rfl
 have e3:phi s=wt (endS s) s.lost+max 0 (min (endS s) s.l - s.u)+(if s.u<min (endS s) s.l then 50 else 0):=rfl
 have hea:=h.ea
 rw [e,h8,e3]
 rcases Nat.eq_zero_or_pos n with h0 | h0
 ·subst h0
  rw [show a+((0:Nat):Int)=a from Int.add_zero a,turn_same,Int.max_eq_left h4]
  exact ⟨Int.le_refl _,fun hx=>absurd hx (by omega)⟩
 ·rcases h.where' hs with ⟨_,g1,g2,g3,g4,g5,g6⟩ | ⟨_,g1,g2,g3⟩
  ·rw [show max s.u (a+(n:Int))=s.u by omega]
   obtain ⟨x,y,r,hl⟩:∃ x y r,s.lost=x :: y :: r:=by
    match hl:s.lost with
    | []=>rw [hl] at g1;simp at g1
    | [_]=>rw [hl] at g1;simp at g1
    | x :: y :: r=>exact ⟨x,y,r,rfl⟩
   rw [hl] at g2 g4 g6
   have g2':a=x:=g2
   have g4':a+n≤min y (endS s):=g4
   have g6':(dueS s most).2=min y (endS s):=g6
   subst g2'
   rw [hl]
   have hw:=wt_drop (E:=endS s) (n:=(n:Int)) (by rw [← hl];exact hs.lost) (by omega) (by omega) g4'
   refine ⟨by have:=hw.1;omega,fun _ hf=>?_⟩
   have:=hw.2 (by rw [g6',← hea] at hf;omega)
   omega
  ·obtain ⟨g4,g5⟩:=g2 h0
   have hT:a+(n:Int)≤4611686018427387904:=by omega
   have hts:turn s.lost a (a+n) false=s.lost:=turn_above hs.lost (fun e he=>by have:=hs.lostU e he;omega) h1 (by omega) hT
   rw [hts,show max s.u (a+(n:Int))=a+n by omega]
   clear hts
   obtain ⟨M,hM⟩:∃ M,min (endS s) s.l=M:=⟨_,rfl⟩
   have hM2:a+(n:Int)≤M:=by omega
   rw [hM] at hm ⊢
   clear e e3 e1 e2 h8 h9 h10 h7 h6 h5 hT
   refine ⟨by split <;> split <;> omega,fun _ hf=>?_⟩
   rw [g3,← hea] at hf
   have hf2:(n:Int)=M - a∨50≤n:=by
    rcases hf with hf | hf
    ·unfold leftS at hf;left;omega
    ·exact .inr hf
   clear hf
   split <;> split <;> omega
theorem phi_lose (hp:Pr s) (h:NextI s room most a n fin fresh):phi (lostS (putS s a n fin fresh) (fkOf s a n fin))≤phi s+50:=by
 have hs:=hp.ok
 obtain ⟨h1,h2,h3,h4,h5,h6,h7,h8,h9,h10⟩:=h.facts hs
 obtain ⟨_,_,e1,e2⟩:=hp.settle h
 have hu:=hs.u;have hn4:=hs.n
 have e:phi (lostS (putS s a n fin fresh) (fkOf s a n fin))=wt (endS s) (turn s.lost a (a+n) true)+max 0 (min (endS s) s.l - (s.u+fresh))+(if s.u+fresh<min (endS s) s.l then 50 else 0):=by rw [← e1];rfl
 have e3:phi s=wt (endS s) s.lost+max 0 (min (endS s) s.l - s.u)+(if s.u<min (endS s) s.l then 50 else 0):=rfl
 rw [e,h8,e3]
 rcases Nat.eq_zero_or_pos n with h0 | h0
 ·subst h0
  rw [show a+((0:Nat):Int)=a from Int.add_zero a,turn_same,Int.max_eq_left h4]
  omega
 ·rcases h.where' hs with ⟨_,g1,g2,g3,g4,g5,g6⟩ | ⟨_,g1,g2,g3⟩
  ·rw [show max s.u (a+(n:Int))=s.u by omega,turn_within hs.lost h1 (by omega) (by omega) (fun x hx1 hx2=>mem_first hs.lost g1 x (by omega) (by omega))]
   omega
  ·obtain ⟨g4,g5⟩:=g2 h0
   have:=wt_add hs.lost (u:=a) (t:=a+n) (E:=endS s) (fun e he=>by have:=hs.lostU e he;omega) h1 (by omega) (by omega) g4
   rw [show max s.u (a+(n:Int))=a+n by omega]
   obtain ⟨M,hM⟩:∃ M,min (endS s) s.l=M:=⟨_,rfl⟩
   have hM2:a+(n:Int)≤M:=by omega
   rw [hM]
   split <;> split <;> omega
/-- In room enough a frame takes all that is due, or fifty bytes. -/
theorem fit_full {n room bare:Int} (hn:0≤n) (hr:bare+51≤room):fitS n room bare=n∨50≤fitS n room bare:=by
 unfold fitS
 obtain ⟨m,hm⟩:∃ m,min (min n 120) (room - bare)=m:=⟨_,rfl⟩
 rw [hm]
 by_cases h64:m<64
 ·have h1:(wid m:Int)=1:=by unfold wid;rw [if_neg (by omega),if_pos h64];rfl
  rw [h1];omega
 ·have h1:(wid m:Int)=2:=by unfold wid;rw [if_neg (by omega),if_neg (by omega),if_pos (by omega)];rfl
  rw [h1];omega
theorem NextI.full (hs:StOk s) (h:NextI s room most a n fin fresh) (hr:bareS s a+51≤room):(n:Int)=(dueS s most).2 - (dueS s most).1∨50≤n:=by
 have hd:=dueS_in hs most
 have:=fit_full (n:=(dueS s most).2 - (dueS s most).1) (room:=room) (bare:=bareS s a) (by omega) hr
 rw [← h.en] at this
 omega
theorem next_none (hs:StOk s) (hr:bareS s (dueS s most).1+51≤room) (h:nextS s room most=none):(dueS s most).1=(dueS s most).2∧¬ (finS s (dueS s most).1 0=true∧dueN s.fin=true):=by
 have hd:=dueS_in hs most
 unfold nextS at h
 rw [if_neg (by omega)] at h
 split at h
 ·rename_i hx
  have hf:=fit_full (n:=(dueS s most).2 - (dueS s most).1) (by omega) hr
  rw [hx.1] at hf hx
  exact ⟨by omega,hx.2⟩
 ·cases h
theorem bare_le (off:Int) (h:0≤off∧off≤4000) (hid:0≤s.id∧s.id<64):bareS s off≤6:=by
 unfold bareS
 have h1:(wid s.id:Int)=1:=by unfold wid;rw [if_neg (by omega),if_pos hid.2];rfl
 have h2:(wid off:Int)≤2:=by
  unfold wid;rw [if_neg (by omega)]
  split
  ·show (1:Int)≤2;omega
  ·rw [if_pos (by omega)];show (2:Int)≤2;omega
 omega
theorem mem_head:∀ {es:List Int},Ok es→∀ x,mem es x=true→0<es.length∧es.getD 0 0≤x
 | [],_,x,h=>by simp [mem,up,oddB] at h
 | a :: r,h,x,hm=>by
   refine ⟨by simp,?_⟩
   rcases Int.lt_or_le x a with h1 | h1
   ·exfalso
    unfold mem at hm
    rw [up_zero _ _ fun y hy=>by
     simp only [List.mem_cons] at hy
     rcases hy with rfl | hy
     ·exact h1
     ·have:=(List.pairwise_cons.1 h.1).1 y hy;omega] at hm
    simp [oddB] at hm
   ·exact h1
theorem hit_of (hs:StOk s) {x:Int} (hm:mem s.lost x=true) (hx:x<endS s):hitS s=true:=by
 obtain ⟨h1,h2⟩:=mem_head hs.lost x hm
 unfold hitS
 simp only [Bool.and_eq_true,decide_eq_true_eq]
 exact ⟨h1,by omega⟩
theorem due_hit (hs:StOk s) (hh:hitS s=true):(dueS s most).1<(dueS s most).2:=by
 have e2:=hh
 unfold hitS at hh
 simp only [Bool.and_eq_true,decide_eq_true_eq] at hh
 obtain ⟨g1,g2,g3,g4⟩:=hit_two hs hh.1
 unfold dueS
 rw [if_pos e2]
 show s.lost.getD 0 0<min (s.lost.getD 1 0) (endS s)
 omega
theorem due_miss (hh:hitS s=false):dueS s most=(s.u,s.u+max 0 (min (min most (leftS s)) (endS s - s.u))):=by
 unfold dueS;rw [hh];rfl
/-- Where nothing goes, though nothing but room and Fin would keep it: all that came below the end, or the limit is reached. -/
theorem Pr.stuck (hp:Pr s) (hd:(dueS s most).1=(dueS s most).2) (hm:min (endS s) s.l - s.u≤most):hitS s=false∧min (endS s) s.l≤s.u∧∀ x,0≤x→x<endS s→x<s.u→mem s.came x=true:=by
 have hs:=hp.ok
 have hh:hitS s=false:=by
  cases hh:hitS s
  ·rfl
  ·have:=due_hit (most:=most) hs hh;omega
 refine ⟨hh,?_,fun x h0 h1 h2=>?_⟩
 ·rw [due_miss hh] at hd
  simp only at hd
  unfold leftS at hd
  omega
 ·rcases hp.cov x h0 h2 with h3 | h3
  ·exact h3
  ·rw [hit_of hs h3 h1] at hh;cases hh
theorem allF_of {es:List Int} (h:Ok es) {t:Int} (h0:0≤t) (hT:t≤4611686018427387904) (hm:∀ x,0≤x→x<t→mem es x=true):allF es 0 t=true :=
 (all_iff h 0 t).2 fun m h1 h2=>by
  rw [clamp_id h0 hT] at h2
  have:0≤m:=by unfold clamp at h1;omega
  exact hm m this h2
end
end Go.Proofs.Ytoahkffdoaphlaa.Se
