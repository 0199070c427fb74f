/- Joined texts. Conditions: as each theorem lists them. -/
import Derived.Lib.Hide
set_option linter.unusedSimpArgs false
set_option linter.unusedVariables false
set_option maxRecDepth 100000
set_option maxHeartbeats 80000000
namespace Go.Proofs.Ytoahkffdoaphlaa.Sp
/-- Rising edges, an even number of them, from 0 to the end. -/
def Ok (es:List Int):Prop:=es.Pairwise (· < ·)∧es.length % 2=0∧∀ e ∈ es,0≤e∧e≤4611686018427387904
def lo (es:List Int) (n:Int):Nat:=es.countP (fun e=>decide (e<n))
def up (es:List Int) (n:Int):Nat:=es.countP (fun e=>decide (e≤n))
def oddB (k:Nat):Bool:=decide (k % 2=1)
def mem (es:List Int) (n:Int):Bool:=oddB (up es n)
def clamp (n:Int):Int:=min (max n 0) 4611686018427387904
theorem clamp_in (n:Int):0≤clamp n∧clamp n≤4611686018427387904:=by unfold clamp;omega
def turnF (es:List Int) (f t:Int) (b:Bool):List Int :=
 es.take (lo es f) ++ (if oddB (lo es f) != b then [f] else []) ++ (if oddB (up es t) != b then [t] else []) ++ es.drop (up es t)
def turn (es:List Int) (f t:Int) (b:Bool):List Int:=if clamp t≤clamp f then es else turnF es (clamp f) (clamp t) b
theorem lo_le_len (es:List Int) (n:Int):lo es n≤es.length:=List.countP_le_length
theorem up_le_len (es:List Int) (n:Int):up es n≤es.length:=List.countP_le_length
theorem lo_app (xs ys:List Int) (n:Int):lo (xs ++ ys) n=lo xs n+lo ys n:=List.countP_append
theorem up_app (xs ys:List Int) (n:Int):up (xs ++ ys) n=up xs n+up ys n:=List.countP_append
theorem up_cons (x:Int) (xs:List Int) (n:Int):up (x :: xs) n=(if x≤n then 1 else 0)+up xs n:=by
 unfold up;rw [List.countP_cons];simp only [decide_eq_true_eq];omega
theorem lo_cons (x:Int) (xs:List Int) (n:Int):lo (x :: xs) n=(if x<n then 1 else 0)+lo xs n:=by
 unfold lo;rw [List.countP_cons];simp only [decide_eq_true_eq];omega
theorem up_zero (xs:List Int) (n:Int) (h:∀ x ∈ xs,n<x):up xs n=0:=by
 unfold up;rw [List.countP_eq_zero];intro x hx;have:=h x hx;simp;omega
theorem lo_zero (xs:List Int) (n:Int) (h:∀ x ∈ xs,n≤x):lo xs n=0:=by
 unfold lo;rw [List.countP_eq_zero];intro x hx;have:=h x hx;simp;omega
theorem up_all (xs:List Int) (n:Int) (h:∀ x ∈ xs,x≤n):up xs n=xs.length:=by
 unfold up;rw [List.countP_eq_length];intro x hx;have:=h x hx;simpa using this
theorem lo_all (xs:List Int) (n:Int) (h:∀ x ∈ xs,x<n):lo xs n=xs.length:=by
 unfold lo;rw [List.countP_eq_length];intro x hx;have:=h x hx;simpa using this
theorem take_lo (es:List Int) (n:Int) (h:es.Pairwise (· < ·)):es.take (lo es n)=es.filter (fun e=>decide (e<n))∧es.drop (lo es n)=es.filter (fun e=>decide (n≤e)):=by
 induction es with
 | nil=>exact ⟨rfl,rfl⟩
 | cons x xs ih =>
   rw [List.pairwise_cons] at h
   rw [lo_cons]
   by_cases hx:x<n
   ·have hx':¬ n≤x:=by omega
    rw [if_pos hx,Nat.add_comm 1]
    simp only [List.take_succ_cons,List.drop_succ_cons,List.filter_cons,hx,hx',decide_true,decide_false,if_true,Bool.false_eq_true,if_false]
    exact ⟨by rw [(ih h.2).1],(ih h.2).2⟩
   ·have hz:lo xs n=0:=lo_zero xs n fun y hy=>by have:=h.1 y hy;omega
    rw [if_neg hx,hz]
    simp only [List.take_zero,List.drop_zero,Nat.add_zero]
    refine ⟨?_,?_⟩
    ·symm;rw [List.filter_eq_nil_iff];intro y hy
     rw [List.mem_cons] at hy
     rcases hy with rfl | hy
     ·simpa using hx
     ·have:=h.1 y hy;simp;omega
    ·symm;rw [List.filter_eq_self];intro y hy
     rw [List.mem_cons] at hy
     rcases hy with rfl | hy
     ·simp;omega
     ·have:=h.1 y hy;simp;omega
theorem up_eq_lo (es:List Int) (n:Int):up es n=lo es (n+1):=by
 unfold up lo;congr 1;funext e;rw [decide_eq_decide];omega
theorem take_up (es:List Int) (n:Int) (h:es.Pairwise (· < ·)):es.take (up es n)=es.filter (fun e=>decide (e≤n))∧es.drop (up es n)=es.filter (fun e=>decide (n<e)):=by
 rw [up_eq_lo]
 have:=take_lo es (n+1) h
 refine ⟨this.1.trans ?_,this.2.trans ?_⟩
 ·congr 1;funext e;rw [decide_eq_decide];omega
 ·congr 1
/-- How many are not above: those below, and itself. -/
theorem up_contains (es:List Int) (n:Int) (h:es.Pairwise (· < ·)):up es n=lo es n+(if es.contains n then 1 else 0):=by
 induction es with
 | nil=>rfl
 | cons x xs ih =>
   rw [List.pairwise_cons] at h
   rw [up_cons,lo_cons,ih h.2,List.contains_cons]
   by_cases h1:x=n
   ·subst h1
    have hn:xs.contains x=false:=by
     rw [Bool.eq_false_iff];intro hc
     have:=h.1 x (by simpa using hc)
     omega
    rw [if_pos (Int.le_refl x),if_neg (Int.lt_irrefl x),hn,beq_self_eq_true,Bool.true_or];simp only [if_true,Bool.false_eq_true,if_false];omega
   ·have:(n == x)=false:=by simp;omega
    rw [this,Bool.false_or]
    by_cases h2:x<n
    ·rw [if_pos (show x≤n by omega),if_pos h2];omega
    ·rw [if_neg (show ¬ x≤n by omega),if_neg h2];omega
theorem up_filter_lt (es:List Int) (f n:Int) (h:n<f):up (es.filter fun e=>decide (e<f)) n=up es n:=by
 unfold up;rw [List.countP_filter];congr 1;funext e
 by_cases he:e≤n
 ·simp [he];omega
 ·simp [he]
theorem up_filter_gt (es:List Int) (t n:Int) (h:t≤n):up (es.filter fun e=>decide (t<e)) n+up es t=up es n:=by
 induction es with
 | nil=>rfl
 | cons x xs ih =>
   rw [up_cons,up_cons,List.filter_cons]
   by_cases h1:t<x
   ·rw [if_pos (by simpa using h1),up_cons,if_neg (show ¬ x≤t by omega)];omega
   ·rw [if_neg (by simpa using h1),if_pos (show x≤t by omega),if_pos (show x≤n by omega)];omega
theorem oddB_add (a b:Nat):oddB (a+b)=(oddB a != oddB b):=by
 unfold oddB
 rcases Nat.mod_two_eq_zero_or_one a with h | h <;> rcases Nat.mod_two_eq_zero_or_one b with h' | h' <;> simp [Nat.add_mod,h,h']
theorem oddB_0:oddB 0=false:=rfl
theorem oddB_1:oddB 1=true:=rfl
theorem odd_fix (i:Nat) (b:Bool):oddB (i+(if oddB i != b then 1 else 0))=b:=by
 rw [oddB_add]
 cases h:oddB i <;> cases b <;> rfl
theorem up_bit (c:Bool) (f n:Int):up (if c=true then [f] else []) n=if f≤n then (if c=true then 1 else 0) else 0:=by
 cases c <;> simp [up,List.countP_cons]
theorem mem_turnF (es:List Int) (f t:Int) (b:Bool) (h:es.Pairwise (· < ·)) (hft:f<t) (n:Int):mem (turnF es f t b) n=if f≤n∧n<t then b else mem es n:=by
 unfold mem turnF
 rw [up_app,up_app,up_app,up_bit,up_bit]
 by_cases h1:n<f
 ·rw [if_neg (show ¬ (f≤n∧n<t) by omega),(take_lo es f h).1,up_filter_lt es f n h1,(take_up es t h).2,up_zero (es.filter _) n (by intro x hx;simp at hx;omega),if_neg (show ¬ f≤n by omega),if_neg (show ¬ t≤n by omega)]
  simp
 ·have hlo:up (es.take (lo es f)) n=lo es f:=by
   rw [up_all _ n (by rw [(take_lo es f h).1];intro x hx;simp at hx;omega),List.length_take]
   have:=lo_le_len es f;omega
  rw [hlo,if_pos (show f≤n by omega)]
  have e1:=odd_fix (lo es f) b
  by_cases h2:n<t
  ·rw [if_pos (show f≤n∧n<t from ⟨by omega,h2⟩),if_neg (show ¬ t≤n by omega),(take_up es t h).2,up_zero (es.filter _) n (by intro x hx;simp at hx;omega)]
   exact e1
  ·rw [if_neg (show ¬ (f≤n∧n<t) by omega),if_pos (show t≤n by omega),(take_up es t h).2]
   have e2:=odd_fix (up es t) b
   have e3:=up_filter_gt es t n (by omega)
   rw [← e3,oddB_add,oddB_add,e1,oddB_add]
   rw [oddB_add] at e2
   revert e2
   cases oddB (up es t) <;> cases oddB (up (es.filter fun e=>decide (t<e)) n) <;> cases b <;> decide
theorem ok_turnF (es:List Int) (f t:Int) (b:Bool) (h:Ok es) (h0:0≤f) (hft:f<t) (hT:t≤4611686018427387904):Ok (turnF es f t b):=by
 obtain ⟨hp,hl,hr⟩:=h
 have e1:=(take_lo es f hp).1
 have e2:=(take_up es t hp).2
 refine ⟨?_,?_,?_⟩
 ·unfold turnF
  rw [e1,e2]
  rw [List.pairwise_append,List.pairwise_append,List.pairwise_append]
  refine ⟨⟨⟨hp.filter _,by split <;> simp,?_⟩,by split <;> simp,?_⟩,hp.filter _,?_⟩
  ·intro x hx y hy
   simp at hx
   split at hy
   ·simp at hy;omega
   ·simp at hy
  ·intro x hx y hy
   rw [List.mem_append] at hx
   have hy':y=t:=by split at hy <;> simp at hy;exact hy
   rcases hx with hx | hx
   ·simp at hx;omega
   ·have:x=f:=by split at hx <;> simp at hx;exact hx
    omega
  ·intro x hx y hy
   simp at hy
   rw [List.mem_append,List.mem_append] at hx
   rcases hx with (hx | hx) | hx
   ·simp at hx;omega
   ·have:x=f:=by split at hx <;> simp at hx;exact hx
    omega
   ·have:x=t:=by split at hx <;> simp at hx;exact hx
    omega
 ·have hlen:(turnF es f t b).length=lo es f+(if oddB (lo es f) != b then 1 else 0)+(if oddB (up es t) != b then 1 else 0)+(es.length - up es t):=by
   unfold turnF
   rw [List.length_append,List.length_append,List.length_append,List.length_take,List.length_drop,Nat.min_eq_left (lo_le_len es f)]
   congr 2
   ·congr 1;split <;> rfl
   ·split <;> rfl
  have o1:=odd_fix (lo es f) b
  have o2:=odd_fix (up es t) b
  have:=up_le_len es t
  unfold oddB at o1 o2
  rw [hlen]
  unfold oddB
  cases b <;> simp only [decide_eq_false_iff_not,decide_eq_true_eq] at o1 o2 <;> omega
 ·intro e he
  unfold turnF at he
  rw [List.mem_append,List.mem_append,List.mem_append] at he
  rcases he with ((he | he) | he) | he
  ·exact hr e (List.mem_of_mem_take he)
  ·have:e=f:=by split at he <;> simp at he;exact he
   omega
  ·have:e=t:=by split at he <;> simp at he;exact he
   omega
  ·exact hr e (List.mem_of_mem_drop he)
theorem ok_nil:Ok []:=⟨List.Pairwise.nil,rfl,fun e he=>by cases he⟩
theorem ok_turn (es:List Int) (f t:Int) (b:Bool) (h:Ok es):Ok (turn es f t b):=by
 unfold turn
 split
 ·exact h
 ·have:=clamp_in f;have:=clamp_in t
  exact ok_turnF es _ _ b h (by omega) (by omega) (by omega)
theorem mem_turn (es:List Int) (f t:Int) (b:Bool) (h:Ok es) (n:Int):mem (turn es f t b) n=if clamp f≤n∧n<clamp t then b else mem es n:=by
 unfold turn
 split
 ·rw [if_neg (by omega)]
 ·exact mem_turnF es _ _ b h.1 (by omega) n
theorem mem_cons (x:Int) (xs:List Int) (n:Int):mem (x :: xs) n=(decide (x≤n) != mem xs n):=by
 unfold mem
 rw [up_cons,oddB_add]
 by_cases h:x≤n <;> simp [h,oddB]
/-- Edges that rise are told by what is in them. -/
theorem edges_eq (es es':List Int) (h:es.Pairwise (· < ·)) (h':es'.Pairwise (· < ·)) (hm:∀ n,mem es n=mem es' n):es=es':=by
 have first:∀ (x:Int) (xs:List Int),(x :: xs).Pairwise (· < ·)→mem (x :: xs) x=true∧∀ n,n<x→mem (x :: xs) n=false:=fun x xs h=>by
  rw [List.pairwise_cons] at h
  refine ⟨?_,fun n hn=>?_⟩
  ·rw [mem_cons];unfold mem;rw [up_zero xs x h.1];simp [oddB]
  ·rw [mem_cons];unfold mem;rw [up_zero xs n fun y hy=>by have:=h.1 y hy;omega];simp [oddB];omega
 induction es generalizing es' with
 | nil =>
   cases es' with
   | nil=>rfl
   | cons x xs=>have:=(first x xs h').1;rw [← hm x] at this;simp [mem,up,oddB] at this
 | cons x xs ih =>
   cases es' with
   | nil=>have:=(first x xs h).1;rw [hm x] at this;simp [mem,up,oddB] at this
   | cons y ys =>
     have hxy:x=y:=by
      rcases Int.lt_trichotomy x y with hlt | heq | hgt
      ·have a:=(first x xs h).1;have b:=(first y ys h').2 x hlt;rw [hm x,b] at a;cases a
      ·exact heq
      ·have a:=(first y ys h').1;have b:=(first x xs h).2 y hgt;rw [← hm y,b] at a;cases a
     subst hxy
     rw [List.pairwise_cons] at h h'
     congr 1
     refine ih ys h.2 h'.2 fun n=>?_
     have:=hm n
     rw [mem_cons,mem_cons] at this
     revert this
     cases decide (x≤n) <;> cases mem xs n <;> cases mem ys n <;> decide
theorem ok_eq {es es':List Int} (h:Ok es) (h':Ok es') (hm:∀ n,mem es n=mem es' n):es=es':=edges_eq es es' h.1 h'.1 hm
theorem mem_out {es:List Int} (h:Ok es) (n:Int) (hn:n<0∨4611686018427387904≤n):mem es n=false:=by
 unfold mem
 rcases hn with hn | hn
 ·rw [up_zero es n fun x hx=>by have:=h.2.2 x hx;omega];rfl
 ·rw [up_all es n fun x hx=>by have:=h.2.2 x hx;omega];unfold oddB;have:=h.2.1;simp;omega
end Go.Proofs.Ytoahkffdoaphlaa.Sp
namespace Go.Proofs.Ytoahkffdoaphlaa.Sp
def cnt:List Int→Int
 | a :: b :: r=>b - a+cnt r
 | _=>0
/-- How many of 0 to N - 1 a test tells. -/
def card (N:Nat) (p:Int→Bool):Nat:=(List.range N).countP fun i:Nat=>p (i:Int)
theorem card_succ (N:Nat) (p:Int→Bool):card (N+1) p=card N p+if p (N:Int)=true then 1 else 0:=by
 unfold card;rw [List.range_succ,List.countP_append,List.countP_cons,List.countP_nil,Nat.zero_add]
theorem card_congr (N:Nat) (p q:Int→Bool) (h:∀ i:Int,0≤i→i<N→p i=q i):card N p=card N q:=by
 induction N with
 | zero=>rfl
 | succ N ih=>rw [card_succ,card_succ,ih fun i h0 h1=>h i h0 (by omega),h N (by omega) (by omega)]
theorem card_or (N:Nat) (p q:Int→Bool) (h:∀ i,p i=true→q i=false):card N (fun i=>p i || q i)=card N p+card N q:=by
 induction N with
 | zero=>rfl
 | succ N ih =>
   rw [card_succ,card_succ,card_succ,ih]
   have:=h N
   cases hp:p N <;> cases hq:q N <;> simp_all <;> omega
theorem card_none (N:Nat):card N (fun _=>false)=0:=by
 induction N with
 | zero=>rfl
 | succ N ih=>rw [card_succ,ih];rfl
theorem card_run (N:Nat) (a b:Int) (h0:0≤a) (h1:a≤b) (h2:b≤N):(card N (fun n=>decide (a≤n) && decide (n<b)):Int)=b - a:=by
 have key:∀ M:Nat,(card M (fun n=>decide (a≤n) && decide (n<b)):Int)=max 0 (min (M:Int) b - a):=by
  intro M
  induction M with
  | zero=>show (0:Int)=_;omega
  | succ M ih =>
    rw [card_succ]
    by_cases h:a≤(M:Int)∧(M:Int)<b
    ·rw [if_pos (by simp;exact h)];omega
    ·rw [if_neg (by simp;omega)];omega
 rw [key];omega
theorem mem_pair (a b:Int) (r:List Int) (n:Int) (h:(a :: b :: r).Pairwise (· < ·)):mem (a :: b :: r) n=((decide (a≤n) && decide (n<b)) || mem r n):=by
 rw [List.pairwise_cons] at h
 have hab:=h.1 b (by simp)
 have h2:=h.2
 rw [List.pairwise_cons] at h2
 rw [mem_cons,mem_cons]
 by_cases h1:a≤n
 ·by_cases h3:b≤n
  ·have:¬ n<b:=by omega
   simp [h1,h3,this]
  ·have hm:mem r n=false:=by unfold mem;rw [up_zero r n fun y hy=>by have:=h2.1 y hy;omega];rfl
   have:n<b:=by omega
   simp [h1,h3,this,hm]
 ·have hm:mem r n=false:=by unfold mem;rw [up_zero r n fun y hy=>by have:=h2.1 y hy;omega];rfl
  have:¬ b≤n:=by omega
  simp [h1,this,hm]
theorem mem_pair_apart (a b:Int) (r:List Int) (n:Int) (h:(a :: b :: r).Pairwise (· < ·)) (h1:(decide (a≤n) && decide (n<b))=true):mem r n=false:=by
 rw [List.pairwise_cons] at h
 have h2:=h.2
 rw [List.pairwise_cons] at h2
 simp at h1
 unfold mem;rw [up_zero r n fun y hy=>by have:=h2.1 y hy;omega];rfl
theorem cnt_card (N:Nat):∀ es:List Int,es.Pairwise (· < ·)→es.length % 2=0→(∀ e ∈ es,0≤e∧e≤N)→cnt es=card N (mem es)
 | [],_,_,_=>by
   have:mem ([]:List Int)=fun _=>false:=by funext n;rfl
   rw [this,card_none];rfl
 | [a],_,h,_=>by simp at h
 | a :: b :: r,h,hl,hr=>by
   have h':=h
   rw [List.pairwise_cons] at h'
   have h2:=h'.2
   rw [List.pairwise_cons] at h2
   have ih:=cnt_card N r h2.2 (by simp at hl;omega) fun e he=>hr e (by simp [he])
   have e:mem (a :: b :: r)=fun n=>(decide (a≤n) && decide (n<b)) || mem r n:=by funext n;exact mem_pair a b r n h
   rw [e,card_or N _ _ fun i hi=>mem_pair_apart a b r i h hi]
   have c:=card_run N a b (hr a (by simp)).1 (by have:=h'.1 b (by simp);omega) (hr b (by simp)).2
   show b - a+cnt r=_
   rw [ih];omega
theorem cnt_bound {es:List Int} (h:Ok es):0≤cnt es∧cnt es≤4611686018427387904:=by
 have key:∀ (es:List Int) (x:Int),es.Pairwise (· < ·)→(∀ e ∈ es,x≤e∧e≤4611686018427387904)→x≤4611686018427387904→0≤cnt es∧cnt es≤4611686018427387904 - x:=by
  intro es
  induction es using cnt.induct with
  | case1 a b r ih =>
    intro x h hr hx
    rw [List.pairwise_cons] at h
    have h2:=h.2
    rw [List.pairwise_cons] at h2
    have hab:=h.1 b (by simp)
    have:=hr a (by simp);have:=hr b (by simp)
    have:=ih b h2.2 (fun e he=>⟨by have:=h2.1 e he;omega,(hr e (by simp [he])).2⟩) (by omega)
    show 0≤b - a+cnt r∧b - a+cnt r≤_
    omega
  | case2 l hl =>
    intro x _ _ hx
    have:cnt l=0:=by
     match l,hl with
     | [],_=>rfl
     | [_],_=>rfl
     | a :: b :: r,hl=>exact absurd rfl (hl a b r)
    omega
 have:=key es 0 h.1 h.2.2 (by omega)
 omega
theorem cnt_take_bound {es:List Int} (h:Ok es) (k:Nat):0≤cnt (es.take (2 * k))∧cnt (es.take (2 * k))≤4611686018427387904:=by
 refine cnt_bound ⟨h.1.take,?_,fun e he=>h.2.2 e (List.mem_of_mem_take he)⟩
 rw [List.length_take];have:=h.2.1;omega
theorem cnt_snoc:∀ (es:List Int) (a b:Int),es.length % 2=0→cnt (es ++ [a,b])=cnt es+(b - a)
 | [],a,b,_=>by show b - a+0=0+(b - a);omega
 | [x],a,b,h=>by simp at h
 | x :: y :: r,a,b,h=>by
   have:=cnt_snoc r a b (by simp at h;omega)
   show y - x+cnt (r ++ [a,b])=y - x+cnt r+(b - a)
   omega
/-- The next pair. -/
theorem take_pair (es:List Int) (k:Nat) (h:2 * k+1<es.length):es.take (2 * (k+1))=es.take (2 * k) ++ [es.getD (2 * k) 0,es.getD (2 * k+1) 0]:=by
 rw [show 2 * (k+1)=2 * k+1+1 by omega,List.take_succ_eq_append_getElem (by omega),List.take_succ_eq_append_getElem (by omega),List.append_assoc]
 simp [List.getD,h,show 2 * k<es.length by omega]
theorem get_mono {es:List Int} (h:es.Pairwise (· < ·)) (i j:Nat) (hij:i<j) (hj:j<es.length):es.getD i 0<es.getD j 0:=by
 have:=List.pairwise_iff_getElem.1 h i j (by omega) hj hij
 simpa [List.getD,hj,show i<es.length by omega] using this
theorem get_in {es:List Int} (h:Ok es) (i:Nat) (hi:i<es.length):0≤es.getD i 0∧es.getD i 0≤4611686018427387904:=by
 have:=h.2.2 es[i] (List.getElem_mem hi)
 simpa [List.getD,hi] using this
def firstF (es:List Int) (n:Int):Int:=if oddB (up es n)=true then es.getD (up es n) 0 else n
theorem up_lt_of_odd {es:List Int} (h:Ok es) (n:Int) (ho:oddB (up es n)=true):up es n<es.length:=by
 have h1:=up_le_len es n
 have h2:=h.2.1
 unfold oddB at ho
 simp at ho
 omega
theorem up_at {es:List Int} (h:es.Pairwise (· < ·)) (k:Nat) (hk:k<es.length) (m:Int) (h0:∀ i,i<k→es.getD i 0≤m) (h1:m<es.getD k 0):up es m=k:=by
 have e:=List.take_append_drop k es
 rw [← e,up_app,up_all,up_zero,List.length_take]
 ·omega
 ·intro x hx
  obtain ⟨i,hi,rfl⟩:=List.mem_iff_getElem.1 hx
  rw [List.length_drop] at hi
  rw [List.getElem_drop]
  rcases Nat.eq_zero_or_pos i with rfl | hp
  ·simpa [List.getD,hk] using h1
  ·have:=get_mono h k (k+i) (by omega) (by omega)
   simp [List.getD,hk,show k+i<es.length by omega] at this h1 ⊢
   omega
 ·intro x hx
  obtain ⟨i,hi,rfl⟩:=List.mem_iff_getElem.1 hx
  rw [List.length_take] at hi
  rw [List.getElem_take]
  have:=h0 i (by omega)
  simpa [List.getD,show i<es.length by omega] using this
theorem up_get {es:List Int} (h:es.Pairwise (· < ·)) (n:Int) (i:Nat) (hi:i<up es n):es.getD i 0≤n:=by
 have e:=(take_up es n h).1
 have hl:=up_le_len es n
 have hm:es.getD i 0 ∈ es.take (up es n):=by
  have:(es.take (up es n)).getD i 0=es.getD i 0:=by simp [List.getD,List.getElem?_take,hi]
  rw [← this]
  simp [List.getD,List.getElem?_take,hi,show i<es.length by omega]
  exact List.mem_iff_getElem.2 ⟨i,by rw [List.length_take];omega,by rw [List.getElem_take]⟩
 rw [e] at hm
 simp at hm
 exact hm.2
theorem get_up {es:List Int} (h:es.Pairwise (· < ·)) (n:Int) (hi:up es n<es.length):n<es.getD (up es n) 0:=by
 have e:=(take_up es n h).2
 have hm:es.getD (up es n) 0 ∈ es.drop (up es n):=by
  simp only [List.getD,List.getElem?_eq_getElem hi,Option.getD_some]
  exact List.mem_iff_getElem.2 ⟨0,by rw [List.length_drop];omega,by rw [List.getElem_drop];rfl⟩
 rw [e] at hm
 simp at hm
 exact hm.2
theorem first_spec {es:List Int} (h:Ok es) (n:Int):n≤firstF es n∧mem es (firstF es n)=false∧∀ m,n≤m→m<firstF es n→mem es m=true:=by
 unfold firstF
 by_cases ho:oddB (up es n)=true
 ·rw [if_pos ho]
  have hlt:=up_lt_of_odd h n ho
  have hg:=get_up h.1 n hlt
  refine ⟨by omega,?_,fun m h1 h2=>?_⟩
  ·unfold mem
   have:up es (es.getD (up es n) 0)=up es n+1:=by
    rcases Nat.lt_or_ge (up es n+1) es.length with h1 | h1
    ·refine up_at h.1 _ h1 _ (fun i hi=>?_) (get_mono h.1 _ _ (by omega) h1)
     rcases Nat.eq_or_lt_of_le (show i≤up es n by omega) with rfl | h3
     ·exact Int.le_refl _
     ·have:=get_mono h.1 i _ h3 hlt;omega
    ·rw [up_all]
     ·omega
     ·intro x hx
      obtain ⟨i,hi,rfl⟩:=List.mem_iff_getElem.1 hx
      rcases Nat.eq_or_lt_of_le (show i≤up es n by omega) with rfl | h3
      ·simp [List.getD,hlt]
      ·have:=get_mono h.1 i _ h3 hlt
       simp [List.getD,hlt,hi] at this ⊢;omega
   rw [this,oddB_add,ho];rfl
  ·unfold mem
   rw [up_at h.1 _ hlt m (fun i hi=>by have:=up_get h.1 n i hi;omega) h2]
   exact ho
 ·rw [if_neg ho]
  exact ⟨Int.le_refl _,by unfold mem;simpa using ho,fun m h1 h2=>by omega⟩
theorem first_in {es:List Int} (h:Ok es) (n:Int) (h0:0≤n):0≤firstF es n:=by have:=(first_spec h n).1;omega
def allF (es:List Int) (f t:Int):Bool:=decide (clamp t≤firstF es (clamp f))
theorem all_iff {es:List Int} (h:Ok es) (f t:Int):allF es f t=true↔∀ m,clamp f≤m→m<clamp t→mem es m=true:=by
 have s:=first_spec h (clamp f)
 unfold allF
 rw [decide_eq_true_iff]
 constructor
 ·intro h1 m h2 h3;exact s.2.2 m h2 (by omega)
 ·intro h1
  rcases Int.lt_or_le (firstF es (clamp f)) (clamp t) with h2 | h2
  ·have:=h1 _ s.1 h2;rw [s.2.1] at this;cases this
  ·exact h2
def gapsG (es:List Int) (f t:Int):List Int:=(if oddB (up es f)=true then [] else [f]) ++ (es.drop (up es f)).take (lo es t - up es f) ++ (if oddB (lo es t)=true then [] else [t])
def gapsF (es:List Int) (f t:Int):List Int:=if clamp t≤clamp f then [] else gapsG es (clamp f) (clamp t)
theorem up_le_lo (es:List Int) (f t:Int) (h:f<t):up es f≤lo es t:=by
 unfold up lo
 refine List.countP_mono_left fun x _ hx=>?_
 simp at hx ⊢;omega
theorem mid_eq (es:List Int) (f t:Int) (h:es.Pairwise (· < ·)) (hft:f<t):(es.drop (up es f)).take (lo es t - up es f)=es.filter fun e=>decide (f<e) && decide (e<t):=by
 rw [← List.drop_take,(take_lo es t h).1]
 have e1:up (es.filter fun e=>decide (e<t)) f=up es f:=up_filter_lt es t f hft
 rw [← e1,(take_up _ f (h.filter _)).2,List.filter_filter]
theorem up_mid (es:List Int) (f t n:Int) (hft:f<t) (h1:f≤n) (h2:n<t):up (es.filter fun e=>decide (f<e) && decide (e<t)) n+up es f=up es n:=by
 rw [show (es.filter fun e=>decide (f<e) && decide (e<t))=(es.filter fun e=>decide (f<e)).filter fun e=>decide (e<t) by rw [List.filter_filter];congr 1;funext e;exact Bool.and_comm _ _]
 rw [up_filter_lt _ t n h2,up_filter_gt es f n h1]
theorem mem_gapsG {es:List Int} (h:Ok es) (f t:Int) (hft:f<t) (n:Int):mem (gapsG es f t) n=(decide (f≤n∧n<t) && !mem es n):=by
 unfold mem gapsG
 rw [mid_eq es f t h.1 hft,up_app,up_app]
 have u1:up (if oddB (up es f)=true then [] else [f]) n=if f≤n then (if oddB (up es f)=true then 0 else 1) else 0:=by
  cases oddB (up es f) <;> simp [up,List.countP_cons]
 have u2:up (if oddB (lo es t)=true then [] else [t]) n=if t≤n then (if oddB (lo es t)=true then 0 else 1) else 0:=by
  cases oddB (lo es t) <;> simp [up,List.countP_cons]
 rw [u1,u2]
 by_cases h1:f≤n
 ·rw [if_pos h1]
  by_cases h2:n<t
  ·have e:=up_mid es f t n hft h1 h2
   rw [if_neg (show ¬ t≤n by omega),decide_eq_true (show f≤n∧n<t from ⟨h1,h2⟩),Bool.true_and,← e,Nat.add_zero,oddB_add,oddB_add]
   cases oddB (up es f) <;> cases oddB (up (es.filter fun e=>decide (f<e) && decide (e<t)) n) <;> decide
  ·rw [if_pos (show t≤n by omega),decide_eq_false (show ¬ (f≤n∧n<t) by omega),Bool.false_and]
   have e:up (es.filter fun e=>decide (f<e) && decide (e<t)) n+up es f=lo es t:=by
    rw [up_all _ n (by intro x hx;simp at hx;omega),← mid_eq es f t h.1 hft,List.length_take,List.length_drop]
    have:=up_le_lo es f t hft;have:=lo_le_len es t;omega
   rw [← e,oddB_add,oddB_add,oddB_add]
   cases oddB (up es f) <;> cases oddB (up (es.filter fun e=>decide (f<e) && decide (e<t)) n) <;> decide
 ·rw [if_neg h1,if_neg (show ¬ t≤n by omega),up_zero _ n (by intro x hx;simp at hx;omega),decide_eq_false (show ¬ (f≤n∧n<t) by omega)]
  rfl
theorem ok_gapsG {es:List Int} (h:Ok es) (f t:Int) (h0:0≤f) (hft:f<t) (hT:t≤4611686018427387904):Ok (gapsG es f t):=by
 have e:=mid_eq es f t h.1 hft
 refine ⟨?_,?_,?_⟩
 ·unfold gapsG
  rw [e,List.pairwise_append,List.pairwise_append]
  refine ⟨⟨by split <;> simp,h.1.filter _,?_⟩,by split <;> simp,?_⟩
  ·intro x hx y hy
   have:x=f:=by split at hx <;> simp at hx;exact hx
   simp at hy;omega
  ·intro x hx y hy
   have:y=t:=by split at hy <;> simp at hy;exact hy
   rw [List.mem_append] at hx
   rcases hx with hx | hx
   ·have:x=f:=by split at hx <;> simp at hx;exact hx
    omega
   ·simp at hx;omega
 ·unfold gapsG
  have:=up_le_lo es f t hft;have:=lo_le_len es t
  rw [List.length_append,List.length_append,List.length_take,List.length_drop]
  have l1:(if oddB (up es f)=true then [] else [f]).length=if oddB (up es f)=true then 0 else 1:=by split <;> rfl
  have l2:(if oddB (lo es t)=true then [] else [t]).length=if oddB (lo es t)=true then 0 else 1:=by split <;> rfl
  rw [l1,l2]
  unfold oddB
  simp only [decide_eq_true_eq]
  split <;> split <;> omega
 ·intro x hx
  unfold gapsG at hx
  rw [e,List.mem_append,List.mem_append] at hx
  rcases hx with (hx | hx) | hx
  ·have:x=f:=by split at hx <;> simp at hx;exact hx
   omega
  ·simp at hx;exact h.2.2 x hx.1
  ·have:x=t:=by split at hx <;> simp at hx;exact hx
   omega
theorem ok_gaps {es:List Int} (h:Ok es) (f t:Int):Ok (gapsF es f t):=by
 unfold gapsF
 have:=clamp_in f;have:=clamp_in t
 split
 ·exact ok_nil
 ·exact ok_gapsG h _ _ (by omega) (by omega) (by omega)
theorem mem_gaps {es:List Int} (h:Ok es) (f t:Int) (n:Int):mem (gapsF es f t) n=(decide (clamp f≤n∧n<clamp t) && !mem es n):=by
 unfold gapsF
 split
 ·rw [decide_eq_false (by omega)];rfl
 ·exact mem_gapsG h _ _ (by omega) n
end Go.Proofs.Ytoahkffdoaphlaa.Sp
namespace Go.Proofs.Ytoahkffdoaphlaa.Sp
def pl (rs:List (Int × Int)):List Int:=rs.flatMap fun r=>[r.1,r.2]
theorem pl_cons (r:Int × Int) (rs:List (Int × Int)):pl (r :: rs)=r.1 :: r.2 :: pl rs:=rfl
theorem pl_app (a b:List (Int × Int)):pl (a ++ b)=pl a ++ pl b:=by simp [pl]
theorem pl_len:∀ rs:List (Int × Int),(pl rs).length=2 * rs.length
 | []=>rfl
 | r :: rs=>by rw [pl_cons,List.length_cons,List.length_cons,List.length_cons,pl_len rs];omega
theorem pl_get0:∀ (rs:List (Int × Int)) (k:Nat) (r:Int × Int),rs[k]?=some r→(pl rs).getD (2 * k) 0=r.1∧(pl rs).getD (2 * k+1) 0=r.2
 | [],k,r,h=>by simp at h
 | q :: rs,0,r,h=>by simp at h;subst h;exact ⟨rfl,rfl⟩
 | q :: rs,k+1,r,h=>by
   have:=pl_get0 rs k r (by simpa using h)
   rw [pl_cons,show 2 * (k+1)=2 * k+1+1 by omega]
   exact this
theorem pl_take:∀ (rs:List (Int × Int)) (k:Nat),pl (rs.take k)=(pl rs).take (2 * k)
 | [],k=>by simp [pl]
 | r :: rs,0=>rfl
 | r :: rs,k+1=>by
   rw [List.take_succ_cons,pl_cons,pl_cons,pl_take rs k,show 2 * (k+1)=2 * k+1+1 by omega]
   rfl
/-- Pairs of a list of numbers. -/
def prs:List Int→List (Int × Int)
 | a :: b :: r=>(a,b) :: prs r
 | _=>[]
theorem pl_prs:∀ es:List Int,es.length % 2=0→pl (prs es)=es
 | [],_=>rfl
 | [a],h=>by simp at h
 | a :: b :: r,h=>by
   show pl ((a,b) :: prs r)=_
   rw [pl_cons,pl_prs r (by simp at h;omega)]
theorem prs_pl:∀ rs:List (Int × Int),prs (pl rs)=rs
 | []=>rfl
 | r :: rs=>by rw [pl_cons];show (r.1,r.2) :: prs (pl rs)=_;rw [prs_pl rs]
def gatherStep (es:List Int) (r:Int × Int):List Int :=
 if 0<es.length∧r.1≤es.getD (es.length - 1) 0 then es.set (es.length - 1) (max (es.getD (es.length - 1) 0) r.2) else es ++ [r.1,r.2]
def gatherF (rs:List (Int × Int)):List Int:=rs.foldl gatherStep []
theorem gather_snoc (rs:List (Int × Int)) (r:Int × Int):gatherF (rs ++ [r])=gatherStep (gatherF rs) r:=by simp [gatherF]
theorem gatherStep_len (es:List Int) (r:Int × Int):(gatherStep es r).length≤es.length+2:=by
 unfold gatherStep;split <;> simp
theorem gather_len (rs:List (Int × Int)) (k:Nat):(gatherF (rs.take k)).length≤2 * k:=by
 induction k with
 | zero=>simp [gatherF]
 | succ k ih =>
   rcases Nat.lt_or_ge k rs.length with h | h
   ·rw [List.take_succ_eq_append_getElem h,gather_snoc]
    have:=gatherStep_len (gatherF (rs.take k)) rs[k]
    omega
   ·rw [List.take_of_length_le (by omega)]
    rw [List.take_of_length_le h] at ih
    omega
theorem get_ge {es:List Int} (h:Ok es) (i:Nat) (hi:i<es.length):(i:Int)≤es.getD i 0:=by
 induction i with
 | zero=>exact (get_in h 0 hi).1
 | succ i ih =>
   have:=get_mono h.1 i (i+1) (by omega) hi
   have:=ih (by omega)
   omega
theorem small_len {es:List Int} (h:Ok es) (M:Nat) (hM:∀ e ∈ es,e≤(M:Int)):es.length≤M+1:=by
 rcases Nat.eq_zero_or_pos es.length with h0 | h0
 ·omega
 ·have h1:=get_ge h (es.length - 1) (by omega)
  have h2:=hM es[es.length - 1] (List.getElem_mem _)
  rw [show es.getD (es.length - 1) 0=es[es.length - 1] by simp [List.getD,show es.length - 1<es.length by omega]] at h1
  omega
theorem gatherStep_small (es:List Int) (r:Int × Int) (M:Int) (h:∀ e ∈ es,e≤M) (h1:r.1≤M) (h2:r.2≤M):∀ e ∈ gatherStep es r,e≤M:=by
 intro e he
 unfold gatherStep at he
 split at he
 ·rename_i hc
  rcases List.mem_or_eq_of_mem_set he with he | rfl
  ·exact h e he
  ·have hl:es.getD (es.length - 1) 0≤M:=by
    have:=h es[es.length - 1] (List.getElem_mem (by omega))
    rwa [show es[es.length - 1]=es.getD (es.length - 1) 0 by simp [List.getD,show es.length - 1<es.length by omega]] at this
   omega
 ·rw [List.mem_append] at he
  rcases he with he | he
  ·exact h e he
  ·simp at he;rcases he with rfl | rfl <;> assumption
theorem gather_small (rs:List (Int × Int)) (M:Int) (h:∀ r ∈ rs,r.1≤M∧r.2≤M) (k:Nat):∀ e ∈ gatherF (rs.take k),e≤M:=by
 induction k with
 | zero=>intro e he;simp [gatherF] at he
 | succ k ih =>
   rcases Nat.lt_or_ge k rs.length with h1 | h1
   ·rw [List.take_succ_eq_append_getElem h1,gather_snoc]
    have:=h rs[k] (List.getElem_mem h1)
    exact gatherStep_small _ _ _ ih this.1 this.2
   ·rw [List.take_of_length_le (by omega)]
    rwa [List.take_of_length_le h1] at ih
def inRun (n:Int) (r:Int × Int):Bool:=decide (r.1≤n) && decide (n<r.2)
theorem mem_snoc (pre:List Int) (a b:Int) (n:Int) (h:(pre ++ [a,b]).Pairwise (· < ·)) (hl:pre.length % 2=0):mem (pre ++ [a,b]) n=(mem pre n || inRun n (a,b)):=by
 rw [List.pairwise_append] at h
 have hab:a<b:=by have:=h.2.1;simp at this;exact this
 have hlo:∀ x ∈ pre,x<a:=fun x hx=>h.2.2 x hx a (by simp)
 unfold mem inRun
 rw [up_app,up_cons,up_cons]
 by_cases h1:a≤n
 ·have e:up pre n=pre.length:=up_all _ _ fun x hx=>by have:=hlo x hx;omega
  have o:oddB pre.length=false:=by unfold oddB;simp;omega
  rw [e,if_pos h1]
  by_cases h2:b≤n
  ·have:¬ n<b:=by omega
   rw [if_pos h2,oddB_add,o];simp [h1,this,up,oddB]
  ·have:n<b:=by omega
   rw [if_neg h2,oddB_add,o];simp [h1,this,up,oddB]
 ·rw [if_neg h1,if_neg (show ¬ b≤n by omega),oddB_add]
  simp [h1,up,oddB]
/-- What gather has of the runs so far. -/
def GI (es:List Int) (done:List (Int × Int)):Prop :=
 Ok es∧(∀ n,mem es n=done.any (inRun n))∧∀ k,2 * k<es.length→∃ q ∈ done,es.getD (2 * k) 0=q.1
theorem GI.step {es:List Int} {done:List (Int × Int)} (h:GI es done) (r:Int × Int) (h0:0≤r.1) (h1:r.1<r.2) (h2:r.2≤4611686018427387904) (hs:∀ q ∈ done,q.1≤r.1):GI (gatherStep es r) (done ++ [r]):=by
 obtain ⟨hok,hm,hst⟩:=h
 unfold gatherStep
 by_cases hc:0<es.length∧r.1≤es.getD (es.length - 1) 0
 ·rw [if_pos hc]
  have hev:=hok.2.1
  obtain ⟨k,hk⟩:∃ k,es.length=2 * k+2:=⟨es.length / 2 - 1,by omega⟩
  obtain ⟨a,ha⟩:∃ a,es.getD (2 * k) 0=a:=⟨_,rfl⟩
  obtain ⟨b,hb⟩:∃ b,es.getD (2 * k+1) 0=b:=⟨_,rfl⟩
  have e:es=es.take (2 * k) ++ [a,b]:=by
   have:=take_pair es k (by omega)
   rw [List.take_of_length_le (by omega),ha,hb] at this
   exact this
  obtain ⟨pre,hp⟩:∃ pre,es.take (2 * k)=pre:=⟨_,rfl⟩
  have hpl:pre.length=2 * k:=by rw [← hp,List.length_take];omega
  rw [hp] at e
  have hlast:es.getD (es.length - 1) 0=b:=by rw [hk];exact hb
  rw [hlast] at hc ⊢
  have har:a≤r.1:=by
   obtain ⟨q,hq,hq1⟩:=hst k (by omega)
   have:=hs q hq
   rw [ha] at hq1;omega
  have hset:es.set (es.length - 1) (max b r.2)=pre ++ [a,max b r.2]:=by
   rw [hk,e]
   simp [List.set_append,hpl]
  rw [hset]
  rw [e] at hok hm hst
  have hpw:=hok.1
  rw [List.pairwise_append] at hpw
  have hab:a<b:=by have:=hpw.2.1;simp at this;exact this
  have hpw':(pre ++ [a,max b r.2]).Pairwise (· < ·):=by
   rw [List.pairwise_append]
   refine ⟨hpw.1,by simp;omega,fun x hx y hy=>?_⟩
   have:=hpw.2.2 x hx a (by simp)
   simp at hy
   rcases hy with rfl | rfl <;> omega
  refine ⟨⟨hpw',?_,?_⟩,fun n=>?_,fun j hj=>?_⟩
  ·simp [hpl]
  ·intro x hx
   have hb':=hok.2.2 b (by simp)
   rw [List.mem_append] at hx
   rcases hx with hx | hx
   ·exact hok.2.2 x (by simp [hx])
   ·simp at hx
    rcases hx with rfl | rfl
    ·exact hok.2.2 _ (by simp)
    ·omega
  ·rw [mem_snoc _ _ _ _ hpw' (by omega),List.any_append,← hm n,mem_snoc _ _ _ _ hok.1 (by omega)]
   have key:inRun n (a,max b r.2)=(inRun n (a,b) || inRun n r):=by
    unfold inRun
    rw [Bool.eq_iff_iff]
    simp
    omega
   rw [key]
   simp [Bool.or_assoc]
  ·have hj':j≤k:=by simp [hpl] at hj;omega
   obtain ⟨q,hq,hq1⟩:=hst j (by simp [hpl];omega)
   refine ⟨q,by simp [hq],?_⟩
   rw [← hq1]
   rcases Nat.lt_or_ge (2 * j) pre.length with h3 | h3
   ·simp [List.getD,List.getElem?_append_left h3]
   ·obtain rfl:j=k:=by omega
    simp [List.getD,hpl]
 ·rw [if_neg hc]
  have hlt:∀ x ∈ es,x<r.1:=fun x hx=>by
   have hne:0<es.length:=List.length_pos_of_mem hx
   have hl:es.getD (es.length - 1) 0<r.1:=by
    rcases Int.lt_or_le (es.getD (es.length - 1) 0) r.1 with h3 | h3
    ·exact h3
    ·exact absurd ⟨hne,h3⟩ hc
   obtain ⟨i,hi,rfl⟩:=List.mem_iff_getElem.1 hx
   have hi':es[i]=es.getD i 0:=by simp [List.getD,hi]
   rw [hi']
   rcases Nat.lt_or_ge i (es.length - 1) with h3 | h3
   ·have:=get_mono hok.1 i (es.length - 1) h3 (by omega);omega
   ·rw [show i=es.length - 1 by omega];exact hl
  have hpw':(es ++ [r.1,r.2]).Pairwise (· < ·):=by
   rw [List.pairwise_append]
   refine ⟨hok.1,by simpa using h1,fun x hx y hy=>?_⟩
   have:=hlt x hx
   simp at hy
   rcases hy with rfl | rfl <;> omega
  refine ⟨⟨hpw',?_,?_⟩,fun n=>?_,fun j hj=>?_⟩
  ·have:=hok.2.1;simp;omega
  ·intro x hx
   rw [List.mem_append] at hx
   rcases hx with hx | hx
   ·exact hok.2.2 x hx
   ·simp at hx;rcases hx with rfl | rfl <;> omega
  ·rw [mem_snoc _ _ _ _ hpw' hok.2.1,List.any_append,hm n]
   simp
  ·simp at hj
   have hev:=hok.2.1
   rcases Nat.lt_or_ge (2 * j) es.length with h3 | h3
   ·obtain ⟨q,hq,hq1⟩:=hst j h3
    refine ⟨q,by simp [hq],?_⟩
    rw [← hq1]
    simp [List.getD,List.getElem?_append_left h3]
   ·refine ⟨r,by simp,?_⟩
    have h4:2 * j=es.length:=by omega
    simp [List.getD,h4]
/-- Runs that may be. -/
def RunOk (r:Int × Int):Prop:=0≤r.1∧r.1<r.2∧r.2≤4611686018427387904
theorem gather_inv (rs:List (Int × Int)) (hr:∀ r ∈ rs,RunOk r) (hs:rs.Pairwise (fun a b=>a.1≤b.1)) (k:Nat) (hk:k≤rs.length):GI (gatherF (rs.take k)) (rs.take k):=by
 induction k with
 | zero=>exact ⟨ok_nil,fun n=>rfl,fun k hk=>by simp [gatherF] at hk⟩
 | succ k ih =>
   have hlt:k<rs.length:=by omega
   rw [List.take_succ_eq_append_getElem hlt,gather_snoc]
   have hro:=hr rs[k] (List.getElem_mem hlt)
   refine (ih (by omega)).step rs[k] hro.1 hro.2.1 hro.2.2 fun q hq=>?_
   obtain ⟨i,hi,rfl⟩:=List.mem_iff_getElem.1 hq
   rw [List.length_take] at hi
   rw [List.getElem_take]
   exact List.pairwise_iff_getElem.1 hs i k (by omega) hlt (by omega)
theorem gather_all (rs:List (Int × Int)) (hr:∀ r ∈ rs,RunOk r) (hs:rs.Pairwise (fun a b=>a.1≤b.1)):Ok (gatherF rs)∧∀ n,mem (gatherF rs) n=rs.any (inRun n):=by
 have:=gather_inv rs hr hs rs.length (Nat.le_refl _)
 rw [List.take_length] at this
 exact ⟨this.1,this.2.1⟩
/-- Edges as runs. -/
theorem prs_ok {es:List Int} (h:Ok es):∀ r ∈ prs es,RunOk r:=by
 have key:∀ es:List Int,es.Pairwise (· < ·)→(∀ e ∈ es,0≤e∧e≤4611686018427387904)→∀ r ∈ prs es,RunOk r:=by
  intro es
  induction es using prs.induct with
  | case1 a b r ih =>
    intro h hr q hq
    rw [List.pairwise_cons] at h
    have h2:=h.2
    rw [List.pairwise_cons] at h2
    rw [show prs (a :: b :: r)=(a,b) :: prs r from rfl,List.mem_cons] at hq
    rcases hq with rfl | hq
    ·exact ⟨(hr a (by simp)).1,h.1 b (by simp),(hr b (by simp)).2⟩
    ·exact ih h2.2 (fun e he=>hr e (by simp [he])) q hq
  | case2 l hl =>
    intro _ _ q hq
    have:prs l=[]:=by
     match l,hl with
     | [],_=>rfl
     | [_],_=>rfl
     | a :: b :: r,hl=>exact absurd rfl (hl a b r)
    rw [this] at hq;cases hq
 exact key es h.1 h.2.2
theorem mem_prs:∀ (es:List Int),es.Pairwise (· < ·)→es.length % 2=0→∀ n,mem es n=(prs es).any (inRun n)
 | [],_,_,n=>rfl
 | [a],_,h,n=>by simp at h
 | a :: b :: r,h,hl,n=>by
   have h':=h
   rw [List.pairwise_cons] at h'
   have h2:=h'.2
   rw [List.pairwise_cons] at h2
   rw [mem_pair a b r n h,mem_prs r h2.2 (by simp at hl;omega) n]
   rfl
end Go.Proofs.Ytoahkffdoaphlaa.Sp
namespace Go.Proofs.Ytoahkffdoaphlaa.Sp.Ref
/-- An ordered list of edges, and two more behind it. -/
theorem ok_snoc {es:List Int} (h:Ok es) (a b:Int) (h0:0≤a) (hab:a<b) (hb:b≤4611686018427387904) (hl:∀ e ∈ es,e<a):Ok (es ++ [a,b]):=by
 refine ⟨List.pairwise_append.2 ⟨h.1,by simp [hab],fun x hx y hy=>?_⟩,by have:=h.2.1;simp;omega,fun e he=>?_⟩
 ·simp only [List.mem_cons,List.not_mem_nil,or_false] at hy
  have:=hl x hx
  rcases hy with rfl | rfl <;> omega
 ·simp only [List.mem_append,List.mem_cons,List.not_mem_nil,or_false] at he
  rcases he with he | rfl | rfl
  ·exact h.2.2 e he
  ·omega
  ·omega
/-- Behind k runs of Drop: what is out. -/
def DropI (es:List Int) (f t:Int) (k:Nat) (out:List Int):Prop :=
 Ok out∧(∀ n,mem out n=(mem (es.take (2 * k)) n && !decide (f≤n∧n<t)))∧(∀ e ∈ out,∀ i,2 * k≤i→i<es.length→e<es.getD i 0)∧out.length≤4 * k
def drop1 (out:List Int) (x y f:Int):List Int:=if x<min y f then out ++ [x,min y f] else out
def drop2 (out:List Int) (x y t:Int):List Int:=if max x t<y then out ++ [max x t,y] else out
theorem DropI.nil (es:List Int) (f t:Int):DropI es f t 0 []:=⟨ok_nil,fun n=>by simp [mem,up,oddB],(fun e he=>by cases he),by simp⟩
theorem DropI.step {es:List Int} {f t:Int} {k:Nat} {out:List Int} (hes:Ok es) (hft:f<t) (hk:2 * k+1<es.length) (h:DropI es f t k out) :
  DropI es f t (k+1) (drop2 (drop1 out (es.getD (2 * k) 0) (es.getD (2 * k+1) 0) f) (es.getD (2 * k) 0) (es.getD (2 * k+1) 0) t):=by
 obtain ⟨h1,h2,h3,h4⟩:=h
 have hxy:=get_mono hes.1 (2 * k) (2 * k+1) (by omega) hk
 have hx:=get_in hes (2 * k) (by omega)
 have hy:=get_in hes (2 * k+1) hk
 have hlx:∀ e ∈ out,e<es.getD (2 * k) 0:=fun e he=>h3 e he (2 * k) (by omega) (by omega)
 have hnx:∀ i,2 * (k+1)≤i→i<es.length→es.getD (2 * k+1) 0<es.getD i 0:=fun i hi hil=>get_mono hes.1 (2 * k+1) i (by omega) hil
 have htk:∀ n,mem (es.take (2 * (k+1))) n=(mem (es.take (2 * k)) n || inRun n (es.getD (2 * k) 0,es.getD (2 * k+1) 0)):=fun n=>by
  have hp:(es.take (2 * (k+1))).Pairwise (· < ·):=hes.1.sublist (List.take_sublist _ _)
  rw [take_pair es k hk] at hp ⊢
  exact mem_snoc _ _ _ n hp (by rw [List.length_take];omega)
 have hmo:∀ n,es.getD (2 * k) 0≤n→mem (es.take (2 * k)) n=false:=fun n hn=>by
  unfold mem
  rw [up_all _ _ (fun e he=>by
   obtain ⟨i,hi,rfl⟩:=List.mem_iff_getElem.1 he
   rw [List.length_take] at hi
   have:=get_mono hes.1 i (2 * k) (by omega) (by omega)
   rw [List.getElem_take]
   have e1:es.getD i 0=es[i]:=by simp [List.getD,show i<es.length by omega]
   omega)]
  unfold oddB
  rw [decide_eq_false]
  rw [List.length_take]
  omega
 generalize es.getD (2 * k) 0=x at *
 generalize es.getD (2 * k+1) 0=y at *
 have g1:Ok (drop1 out x y f)∧(∀ n,mem (drop1 out x y f) n=(mem out n || inRun n (x,min y f)))∧(∀ e ∈ drop1 out x y f,e<x∨e≤min y f∧x<f)∧(drop1 out x y f).length≤4 * k+2:=by
  unfold drop1
  split
  ·rename_i hc
   have ho:=ok_snoc h1 x (min y f) hx.1 hc (by omega) hlx
   refine ⟨ho,fun n=>mem_snoc _ _ _ n ho.1 h1.2.1,fun e he=>?_,by simp;omega⟩
   simp only [List.mem_append,List.mem_cons,List.not_mem_nil,or_false] at he
   rcases he with he | rfl | rfl
   ·exact .inl (hlx e he)
   ·exact .inr ⟨by omega,by omega⟩
   ·exact .inr ⟨by omega,by omega⟩
  ·rename_i hc
   refine ⟨h1,fun n=>?_,fun e he=>.inl (hlx e he),by omega⟩
   have:inRun n (x,min y f)=false:=by
    simp only [inRun,Bool.and_eq_false_iff,decide_eq_false_iff_not];omega
   rw [this,Bool.or_false]
 obtain ⟨a1,a2,a3,a4⟩:=g1
 generalize drop1 out x y f=o1 at *
 have g2:Ok (drop2 o1 x y t)∧(∀ n,mem (drop2 o1 x y t) n=(mem o1 n || inRun n (max x t,y)))∧(∀ e ∈ drop2 o1 x y t,e≤y)∧(drop2 o1 x y t).length≤4 * k+4:=by
  have hle:∀ e ∈ o1,e≤y:=fun e he=>by rcases a3 e he with h | h <;> omega
  unfold drop2
  split
  ·rename_i hc
   have ho:=ok_snoc a1 (max x t) y (by omega) hc (by omega) (fun e he=>by rcases a3 e he with h | h <;> omega)
   refine ⟨ho,fun n=>mem_snoc _ _ _ n ho.1 a1.2.1,fun e he=>?_,by simp;omega⟩
   simp only [List.mem_append,List.mem_cons,List.not_mem_nil,or_false] at he
   rcases he with he | rfl | rfl
   ·exact hle e he
   ·omega
   ·omega
  ·rename_i hc
   refine ⟨a1,fun n=>?_,hle,by omega⟩
   have:inRun n (max x t,y)=false:=by
    simp only [inRun,Bool.and_eq_false_iff,decide_eq_false_iff_not];omega
   rw [this,Bool.or_false]
 obtain ⟨b1,b2,b3,b4⟩:=g2
 refine ⟨b1,fun n=>?_,fun e he i hi hil=>by have:=b3 e he;have:=hnx i hi hil;omega,by omega⟩
 rw [b2,a2,h2,htk]
 by_cases hn:x≤n
 ·rw [hmo n hn]
  rw [Bool.eq_iff_iff]
  simp only [inRun,Bool.or_eq_true,Bool.and_eq_true,decide_eq_true_eq,Bool.not_eq_true',decide_eq_false_iff_not,Bool.false_and,Bool.false_or]
  omega
 ·have e1:∀ u v,x≤u→inRun n (u,v)=false:=fun u v hu=>by
   simp only [inRun,Bool.and_eq_false_iff,decide_eq_false_iff_not];omega
  rw [e1 x _ (Int.le_refl _),e1 x _ (Int.le_refl _),e1 _ _ (show x≤max x t by omega),Bool.or_false,Bool.or_false,Bool.or_false]
theorem drop_eq {es:List Int} {f t:Int} {out:List Int} (hes:Ok es) (h0:0≤f) (hft:f<t) (hT:t≤4611686018427387904) (n:Nat) (hn:es.length=n * 2) (h:DropI es f t n out):out=turnF es f t false:=by
 refine ok_eq h.1 (ok_turnF es f t false hes h0 hft hT) fun m=>?_
 rw [h.2.1,mem_turnF es f t false hes.1 hft,List.take_of_length_le (by omega)]
 by_cases c:f≤m∧m<t
 ·rw [if_pos c,decide_eq_true c];simp
 ·rw [if_neg c,decide_eq_false c];simp
end Go.Proofs.Ytoahkffdoaphlaa.Sp.Ref
namespace Go.Proofs.Ytoahkffdoaphlaa.Sp.Ref
/-- Behind k runs of Add: what it has of the new run (F to T), whether that is out, what is out. -/
structure AddI (es:List Int) (f t:Int) (k:Nat) (F T:Int) (d:Bool) (out:List Int):Prop where
 lo:0≤F
 lt:F<T
 hi:T≤4611686018427387904
 ok:Ok out
 fwd:∀ e ∈ out,∀ i,2 * k≤i→i<es.length→e<es.getD i 0
 len:out.length≤2 * k+(if d=true then 2 else 0)
 fresh:d=false→(∀ e ∈ out,e<F)∧∀ n,(mem out n || decide (F≤n∧n<T))=(mem (es.take (2 * k)) n || decide (f≤n∧n<t))
 done:d=true→(∀ i,2 * k≤i→i<es.length→T<es.getD i 0)∧∀ n,mem out n=(mem (es.take (2 * k)) n || decide (f≤n∧n<t))
theorem AddI.nil (es:List Int) (f t:Int) (h0:0≤f) (hft:f<t) (hT:t≤4611686018427387904):AddI es f t 0 f t false [] :=
 ⟨h0,hft,hT,ok_nil,(fun e he=>by cases he),by simp,fun _=>⟨(fun e he=>by cases he),fun n=>by simp [mem,up,oddB]⟩,fun h=>by cases h⟩
theorem take_mem {es:List Int} (hes:Ok es) (k:Nat) (hk:2 * k+1<es.length) (n:Int):mem (es.take (2 * (k+1))) n=(mem (es.take (2 * k)) n || inRun n (es.getD (2 * k) 0,es.getD (2 * k+1) 0)):=by
 have hp:(es.take (2 * (k+1))).Pairwise (· < ·):=hes.1.sublist (List.take_sublist _ _)
 rw [take_pair es k hk] at hp ⊢
 exact mem_snoc _ _ _ n hp (by rw [List.length_take];omega)
theorem run_dec (n a b:Int):inRun n (a,b)=decide (a≤n∧n<b):=by
 rw [Bool.eq_iff_iff];simp [inRun]
variable {es:List Int} {f t:Int} {k:Nat} {F T:Int} {out:List Int}
/-- The run at hand lies ahead of the new one. -/
theorem AddI.ahead (hes:Ok es) (hk:2 * k+1<es.length) (h:AddI es f t k F T false out) (hb:es.getD (2 * k+1) 0<F) :
  AddI es f t (k+1) F T false (out ++ [es.getD (2 * k) 0,es.getD (2 * k+1) 0]):=by
 have hxy:=get_mono hes.1 (2 * k) (2 * k+1) (by omega) hk
 have hx:=get_in hes (2 * k) (by omega)
 have hy:=get_in hes (2 * k+1) hk
 have ho:=ok_snoc h.ok _ _ hx.1 hxy hy.2 (fun e he=>h.fwd e he (2 * k) (by omega) (by omega))
 obtain ⟨g1,g2⟩:=h.fresh rfl
 refine ⟨h.lo,h.lt,h.hi,ho,fun e he i hi hil=>?_,by have:=h.len;simp at this ⊢;omega,fun _=>⟨fun e he=>?_,fun n=>?_⟩,fun h=>by cases h⟩
 ·simp only [List.mem_append,List.mem_cons,List.not_mem_nil,or_false] at he
  have h2:=get_mono hes.1 (2 * k+1) i (by omega) hil
  rcases he with he | rfl | rfl
  ·exact h.fwd e he i (by omega) hil
  ·omega
  ·omega
 ·simp only [List.mem_append,List.mem_cons,List.not_mem_nil,or_false] at he
  rcases he with he | rfl | rfl
  ·exact g1 e he
  ·omega
  ·omega
 ·rw [mem_snoc _ _ _ n ho.1 h.ok.2.1,take_mem hes k hk n]
  have:=g2 n
  cases hA:mem out n <;> cases hB:mem (es.take (2 * k)) n <;> cases hC:inRun n (es.getD (2 * k) 0,es.getD (2 * k+1) 0) <;> simp_all
/-- It meets, or touches, the new one. -/
theorem AddI.meets (hes:Ok es) (hk:2 * k+1<es.length) (h:AddI es f t k F T false out) (hb:¬ es.getD (2 * k+1) 0<F) (ha:¬ T<es.getD (2 * k) 0) :
  AddI es f t (k+1) (min F (es.getD (2 * k) 0)) (max T (es.getD (2 * k+1) 0)) false out:=by
 have hxy:=get_mono hes.1 (2 * k) (2 * k+1) (by omega) hk
 have hx:=get_in hes (2 * k) (by omega)
 have hy:=get_in hes (2 * k+1) hk
 have h1:=h.lo
 have h2:=h.lt
 have h3:=h.hi
 obtain ⟨g1,g2⟩:=h.fresh rfl
 refine ⟨by omega,by omega,by omega,h.ok,fun e he i hi hil=>h.fwd e he i (by omega) hil,by have:=h.len;simp at this ⊢;omega,fun _=>⟨fun e he=>?_,fun n=>?_⟩,fun h=>by cases h⟩
 ·have:=g1 e he
  have:=h.fwd e he (2 * k) (by omega) (by omega)
  omega
 ·rw [take_mem hes k hk n,run_dec]
  have e:decide (min F (es.getD (2 * k) 0)≤n∧n<max T (es.getD (2 * k+1) 0))=(decide (F≤n∧n<T) || decide (es.getD (2 * k) 0≤n∧n<es.getD (2 * k+1) 0)):=by
   rw [Bool.eq_iff_iff]
   simp only [Bool.or_eq_true,decide_eq_true_eq]
   omega
  rw [e,← Bool.or_assoc,g2 n]
  cases mem (es.take (2 * k)) n <;> cases decide (f≤n∧n<t) <;> simp
/-- It lies behind the new one, which is out. -/
theorem AddI.behind (hes:Ok es) (hk:2 * k+1<es.length) (h:AddI es f t k F T true out) :
  es.getD (2 * k) 0 > T∧¬ es.getD (2 * k+1) 0<F∧AddI es f t (k+1) F T true (out ++ [es.getD (2 * k) 0,es.getD (2 * k+1) 0]):=by
 have hxy:=get_mono hes.1 (2 * k) (2 * k+1) (by omega) hk
 have hx:=get_in hes (2 * k) (by omega)
 have hy:=get_in hes (2 * k+1) hk
 have ho:=ok_snoc h.ok _ _ hx.1 hxy hy.2 (fun e he=>h.fwd e he (2 * k) (by omega) (by omega))
 obtain ⟨g1,g2⟩:=h.done rfl
 have g3:=g1 (2 * k) (by omega) (by omega)
 have h2:=h.lt
 refine ⟨g3,by omega,h.lo,h.lt,h.hi,ho,fun e he i hi hil=>?_,by have:=h.len;simp at this ⊢;omega,(fun h=>by cases h),fun _=>⟨fun i hi hil=>g1 i (by omega) hil,fun n=>?_⟩⟩
 ·simp only [List.mem_append,List.mem_cons,List.not_mem_nil,or_false] at he
  have h2:=get_mono hes.1 (2 * k+1) i (by omega) hil
  rcases he with he | rfl | rfl
  ·exact h.fwd e he i (by omega) hil
  ·omega
  ·omega
 ·rw [mem_snoc _ _ _ n ho.1 h.ok.2.1,take_mem hes k hk n,g2 n]
  cases mem (es.take (2 * k)) n <;> cases decide (f≤n∧n<t) <;> simp
/-- The new one goes out ahead of what is still to come. -/
theorem AddI.out_now (h:AddI es f t k F T false out) (ha:∀ i,2 * k≤i→i<es.length→T<es.getD i 0) :
  AddI es f t k F T true (out ++ [F,T]):=by
 have h1:=h.lo
 have h2:=h.lt
 have h3:=h.hi
 obtain ⟨g1,g2⟩:=h.fresh rfl
 have ho:=ok_snoc h.ok F T h1 h2 h3 g1
 refine ⟨h1,h2,h3,ho,fun e he i hi hil=>?_,by have:=h.len;simp at this ⊢;omega,(fun h=>by cases h),fun _=>⟨ha,fun n=>?_⟩⟩
 ·simp only [List.mem_append,List.mem_cons,List.not_mem_nil,or_false] at he
  have:=ha i hi hil
  rcases he with he | rfl | rfl
  ·exact h.fwd e he i hi hil
  ·omega
  ·omega
 ·rw [mem_snoc _ _ _ n ho.1 h.ok.2.1,run_dec,g2 n]
theorem ahead_of (hes:Ok es) (hk:2 * k+1<es.length) (ha:T<es.getD (2 * k) 0):∀ i,2 * k≤i→i<es.length→T<es.getD i 0:=fun i hi hil=>by
 rcases Nat.lt_or_ge (2 * k) i with h | h
 ·have:=get_mono hes.1 (2 * k) i h hil;omega
 ·obtain rfl:i=2 * k:=by omega
  exact ha
theorem AddI.eq (hes:Ok es) (h0:0≤f) (hft:f<t) (hT:t≤4611686018427387904) (n:Nat) (hn:es.length=n * 2) (h:AddI es f t n F T true out):out=turnF es f t true:=by
 refine ok_eq h.ok (ok_turnF es f t true hes h0 hft hT) fun m=>?_
 rw [(h.done rfl).2 m,mem_turnF es f t true hes.1 hft,List.take_of_length_le (by omega)]
 by_cases c:f≤m∧m<t
 ·rw [if_pos c,decide_eq_true c];simp
 ·rw [if_neg c,decide_eq_false c];simp
end Go.Proofs.Ytoahkffdoaphlaa.Sp.Ref
