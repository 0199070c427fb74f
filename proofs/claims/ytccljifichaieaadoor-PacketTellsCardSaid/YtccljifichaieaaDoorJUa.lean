/- Joined texts. Conditions: as each theorem lists them. -/
import Derived.Test.YtccljifichaieaaDoorJ7
set_option linter.unusedSimpArgs false
set_option linter.unusedVariables false
set_option maxRecDepth 100000
set_option maxHeartbeats 8000000
namespace Go.Proofs.YtccljifichaieaaDoor
open Go Go.RowKit
/-- A reader's answer and a plain one are alike: an error, or the same and the same rest. -/
def Meets {α:Type} (x:α × Rs) (o:Option (α × List Nat)):Prop:=match o with
 | none=>x.2.e≠0
 | some (v,r)=>x=(v,⟨r,0⟩)
def nO (b:Bool) (bs:List Nat):Option (Int × List Nat):=match b with
 | false=>some (0,bs)
 | true=>match dec bs with
   | none=>none
   | some (v,W)=>some ((v:Int),bs.drop W)
def fO (b:Bool) (bs:List Nat):Option (Bool × List Nat):=match b with
 | false=>some (false,bs)
 | true=>match dec bs with
   | none=>none
   | some (v,W)=>if 1<v then none else some (decide (v=1),bs.drop W)
def dO (b:Bool) (bs:List Nat):Option (List Nat × List Nat):=match b with
 | false=>some ([],bs)
 | true=>match dec bs with
   | none=>none
   | some (v,W)=>if 120<v∨bs.length - W<v then none else some ((bs.drop W).take v,(bs.drop W).drop v)
def runO (la:Int) (r:List Nat):Option (Int × List Nat):=if la<0 then none else match dec r with
 | none=>none
 | some (y,V)=>if la<y then none else some (la - y,r.drop V)
/-- The last number of the i-th run, by what is read. -/
def lastO (i:Nat) (es:List Int) (v:Nat):Int:=if i=0 then (v:Int) else es.getD (2 * (i - 1)) 0 - v
def stepO (i:Nat) (x:List Int × List Nat):Option (List Int × List Nat):=match dec x.2 with
 | none=>none
 | some (v,W)=>if 0<i∧v<2 then none else match runO (lastO i x.1 v) (x.2.drop W) with
   | none=>none
   | some (lo,r)=>some (x.1 ++ [lo,lastO i x.1 v],r)
def runsO (bs:List Nat):Nat→Option (List Int × List Nat)
 | 0=>some ([],bs)
 | i+1=>match runsO bs i with
   | none=>none
   | some x=>stepO i x
def sO (b:Bool) (bs:List Nat):Option (List Int × List Nat):=match b with
 | false=>some ([],bs)
 | true=>match dec bs with
   | none=>none
   | some (n,W)=>if n<1∨8<n then none else runsO (bs.drop W) n
def bodyO (k:Int) (bs:List Nat) (B:Nat→Bool):Option (Fr × List Nat) :=
 match nO (B 0) bs with
 | none=>none
 | some (id,b1)=>match nO (B 1) b1 with
   | none=>none
   | some (a,b2)=>match nO (B 2) b2 with
     | none=>none
     | some (off,b3)=>match nO (B 3) b3 with
       | none=>none
       | some (b,b4)=>match fO (B 4) b4 with
         | none=>none
         | some (fin,b5)=>match dO (B 5) b5 with
           | none=>none
           | some (data,b6)=>match sO (B 6) b6 with
             | none=>none
             | some (es,b7)=>if rightB ⟨k,id,off,a,b,0,fin,data,es⟩=true then some (⟨k,id,off,a,b,0,fin,data,es⟩,b7) else none
def frameO (bs:List Nat):Option (Fr × List Nat):=match dec bs with
 | none=>none
 | some (k,W)=>if k<1∨12<k then none else bodyO (k:Int) (bs.drop W) (nbit (k:Int))
theorem numR_none {bs:List Nat} (h:dec bs=none):(numR ⟨bs,0⟩).2.e≠0:=by
 unfold numR;simp only [h];unfold needR;simp
theorem numR_some {bs:List Nat} {v W:Nat} (h:dec bs=some (v,W)):numR ⟨bs,0⟩=((v:Int),⟨bs.drop W,0⟩):=by
 unfold numR;simp only [h,if_true]
theorem num_meets (bs:List Nat):Meets (numR ⟨bs,0⟩) (nO true bs):=by
 unfold nO
 cases h:dec bs with
 | none=>simp only;exact numR_none h
 | some p=>obtain ⟨v,W⟩:=p;simp only;exact numR_some h
theorem optN_meets (b:Bool) (bs:List Nat):Meets (optN b ⟨bs,0⟩) (nO b bs):=by
 cases b
 ·exact rfl
 ·exact num_meets bs
theorem needR_no {s:Rs} {e:Int} (he:e≠0):(needR s false e).e≠0:=fun h=>by
 have:=(needR_zero he h).2.1;cases this
theorem optF_meets (b:Bool) (bs:List Nat):Meets (optF b ⟨bs,0⟩) (fO b bs):=by
 cases b
 ·exact rfl
 ·unfold optF fO flagR
  cases h:dec bs with
  | none=>simp only;exact fun h2=>numR_none h ((needR_zero (by decide) h2).2.2)
  | some p =>
    obtain ⟨v,W⟩:=p
    simp only [numR_some h]
    by_cases hv:1<v
    ·rw [if_pos hv]
     have:decide ((v:Int)≤1)=false:=decide_eq_false (by omega)
     rw [this]
     exact needR_no (by decide)
    ·rw [if_neg hv]
     have:decide ((v:Int)≤1)=true:=decide_eq_true (by omega)
     rw [this]
     unfold Meets
     rw [need_ok _ _ _ rfl]
     simp only [Prod.mk.injEq,and_true]
     by_cases h1:v=1
     ·subst h1;rfl
     ·rw [decide_eq_false h1];simp;omega
theorem optD_meets (b:Bool) (bs:List Nat):Meets (optD b ⟨bs,0⟩) (dO b bs):=by
 cases b
 ·exact rfl
 ·unfold optD dO
  cases h:dec bs with
  | none=>simp only;exact fun h2=>numR_none h ((dataR_good _).2 h2 |> fun _=>by
    unfold dataR at h2
    split at h2
    ·rename_i hz
     have h1:=(needR_zero (by decide) hz).2.2
     exact ((needR_zero (by decide) h1).2.2)
    ·rename_i hz
     exact absurd h2 hz)
  | some p =>
    obtain ⟨v,W⟩:=p
    simp only
    unfold dataR
    simp only [numR_some h]
    by_cases hv:120<v
    ·rw [if_pos (show 120<v∨bs.length - W<v from .inl hv)]
     have:decide ((v:Int)≤120)=false:=decide_eq_false (by omega)
     rw [this]
     have hz:∀ ok,(needR (needR ⟨bs.drop W,0⟩ false 2) ok 3).e≠0:=fun ok h2=>needR_no (by decide) ((needR_zero (by decide) h2).2.2)
     rw [if_neg (hz _)]
     show (needR (needR _ false 2) _ 3).e≠0
     exact hz _
    ·have:decide ((v:Int)≤120)=true:=decide_eq_true (by omega)
     rw [this,need_ok _ _ _ rfl]
     simp only
     by_cases hl:bs.length - W<v
     ·rw [if_pos (show 120<v∨bs.length - W<v from .inr hl)]
      have:decide ((v:Int)≤((bs.drop W).length:Int))=false:=decide_eq_false (by rw [List.length_drop];omega)
      rw [this,if_neg (needR_no (by decide))]
      exact needR_no (by decide)
     ·rw [if_neg (show ¬ (120<v∨bs.length - W<v) by omega)]
      have:decide ((v:Int)≤((bs.drop W).length:Int))=true:=decide_eq_true (by rw [List.length_drop];omega)
      rw [this,need_ok _ _ _ rfl]
      simp only [if_true]
      rfl
theorem run_meets (r:List Nat) (la:Int) (h2:la≤4611686018427387903):Meets (runS ⟨r,0⟩ la) (runO la r):=by
 unfold runO
 by_cases h0:la<0
 ·rw [if_pos h0]
  intro hz
  unfold runS at hz
  have h3:=(needR_zero (by decide) hz).2.2
  have h4:=(numR_lt _).1.2 h3
  have:=(needR_zero (by decide) h4).2.1
  simp at this
  omega
 ·rw [if_neg h0]
  have hd:decide (0≤la)=true:=decide_eq_true (by omega)
  unfold runS
  rw [hd,need_ok _ _ _ rfl]
  cases h:dec r with
  | none=>simp only;exact fun h5=>numR_none h ((needR_zero (by decide) h5).2.2)
  | some p =>
    obtain ⟨y,V⟩:=p
    simp only [numR_some h]
    by_cases hy:la<y
    ·rw [if_pos hy,decide_eq_false (by omega)]
     exact needR_no (by decide)
    ·rw [if_neg hy,decide_eq_true (by omega),need_ok _ _ _ rfl,IntWalk.wrap64_in _ (by omega)]
     rfl
/-- What the runs hold so far. -/
def InM (es:List Int):Prop:=∀ x ∈ es,0≤x∧x≤4611686018427387903
theorem InM.getD {es:List Int} (h:InM es) (j:Nat):0≤es.getD j 0∧es.getD j 0≤4611686018427387903:=by
 rcases Nat.lt_or_ge j es.length with h1 | h1
 ·simp only [List.getD,List.getElem?_eq_getElem h1,Option.getD_some]
  exact h _ (List.getElem_mem h1)
 ·simp [List.getD,List.getElem?_eq_none h1]
theorem runO_in {la lo:Int} {r r2:List Nat} (h:runO la r=some (lo,r2)):0≤lo∧lo≤la∧0≤la∧∀ x ∈ r2,x ∈ r:=by
 unfold runO at h
 split at h
 ·cases h
 ·split at h
  ·cases h
  ·split at h
   ·cases h
   ·simp only [Option.some.injEq,Prod.mk.injEq] at h
    obtain ⟨rfl,rfl⟩:=h
    exact ⟨by omega,by omega,by omega,fun x hx=>List.mem_of_mem_drop hx⟩
theorem lastO_le {i:Nat} {es:List Int} {v:Nat} (hi:InM es) (hv:v≤4611686018427387903):lastO i es v≤4611686018427387903∧-4611686018427387903≤lastO i es v:=by
 unfold lastO
 split
 ·omega
 ·have:=hi.getD (2 * (i - 1));omega
theorem stepO_in {i:Nat} {x y:List Int × List Nat} (hi:InM x.1) (hb:∀ c ∈ x.2,c<256) (h:stepO i x=some y):InM y.1∧(∀ c ∈ y.2,c ∈ x.2)∧y.1.length=x.1.length+2∧x.1=y.1.take x.1.length:=by
 unfold stepO at h
 cases hd:dec x.2 with
 | none=>rw [hd] at h;cases h
 | some p =>
   obtain ⟨v,W⟩:=p
   rw [hd] at h
   simp only at h
   split at h
   ·cases h
   ·cases hr:runO (lastO i x.1 v) (x.2.drop W) with
    | none=>rw [hr] at h;cases h
    | some q =>
      obtain ⟨lo,r⟩:=q
      rw [hr] at h
      simp only [Option.some.injEq] at h
      subst h
      obtain ⟨h1,h2,h3,h4⟩:=runO_in hr
      have hl:=lastO_le (i:=i) (v:=v) hi (dec_lt hb hd)
      refine ⟨fun z hz=>?_,fun c hc=>List.mem_of_mem_drop (h4 c hc),by simp,by simp⟩
      simp only [List.mem_append,List.mem_cons,List.not_mem_nil,or_false] at hz
      rcases hz with hz | rfl | rfl
      ·exact hi z hz
      ·omega
      ·omega
theorem runsO_in {bs:List Nat} (hb:∀ c ∈ bs,c<256):∀ (i:Nat) (x:List Int × List Nat),runsO bs i=some x→InM x.1∧(∀ c ∈ x.2,c ∈ bs)∧x.1.length=2 * i
 | 0,x,h=>by
   simp only [runsO,Option.some.injEq] at h
   subst h
   exact ⟨fun z hz=>(by cases hz),fun c hc=>hc,rfl⟩
 | i+1,x,h=>by
   unfold runsO at h
   cases hq:runsO bs i with
   | none=>rw [hq] at h;cases h
   | some q =>
     rw [hq] at h
     obtain ⟨g1,g2,g3⟩:=runsO_in hb i q hq
     obtain ⟨h1,h2,h3,_⟩:=stepO_in g1 (fun c hc=>hb c (g2 c hc)) h
     exact ⟨h1,fun c hc=>g2 c (h2 c hc),by omega⟩
theorem runsO_none {bs:List Nat} {i:Nat} (h:runsO bs i=none):∀ j,runsO bs (i+j)=none
 | 0=>h
 | j+1=>by
   show (match runsO bs (i+j) with | none=>none | some x=>stepO (i+j) x)=none
   rw [runsO_none h j]
/-- The first run, as the program reads it. -/
def x0R (ds:List Nat):List Int × Rs:=([(runS (numR ⟨ds,0⟩).2 (numR ⟨ds,0⟩).1).1,(numR ⟨ds,0⟩).1],(runS (numR ⟨ds,0⟩).2 (numR ⟨ds,0⟩).1).2)
theorem runs_meets {ds:List Nat} (hb:∀ c ∈ ds,c<256):∀ i,Meets (runsS (x0R ds) i) (runsO ds (i+1))
 | 0=>by
   show Meets (x0R ds) (match some ([],ds) with | none=>none | some x=>stepO 0 x)
   simp only
   unfold stepO x0R
   simp only
   cases h:dec ds with
   | none=>exact fun h2=>numR_none h ((runS_good _ _).2 h2)
   | some p =>
     obtain ⟨v,W⟩:=p
     simp only [numR_some h]
     rw [if_neg (by omega)]
     have hm:=run_meets (ds.drop W) v (by have:=dec_lt hb h;omega)
     have hl:lastO 0 [] v=(v:Int):=by simp [lastO]
     rw [hl]
     cases hr:runO (v:Int) (ds.drop W) with
     | none=>rw [hr] at hm;simp only;exact hm
     | some q =>
       obtain ⟨lo,r⟩:=q
       rw [hr] at hm
       simp only
       unfold Meets at hm ⊢
       simp only at hm ⊢
       rw [hm]
       rfl
 | i+1=>by
   have ih:=runs_meets hb i
   show Meets (stepS (runsS (x0R ds) i) i) (match runsO ds (i+1) with | none=>none | some x=>stepO (i+1) x)
   cases hq:runsO ds (i+1) with
   | none =>
     rw [hq] at ih
     exact fun h=>ih ((stepS_good _ _).2 h)
   | some q =>
     rw [hq] at ih
     obtain ⟨es,r⟩:=q
     unfold Meets at ih
     simp only at ih
     rw [ih]
     obtain ⟨g1,g2,g3⟩:=runsO_in hb _ _ hq
     simp only at g1 g2 g3
     have hbr:∀ c ∈ r,c<256:=fun c hc=>hb c (g2 c hc)
     show Meets (stepS (es,⟨r,0⟩) i) (stepO (i+1) (es,r))
     unfold stepS stepO
     simp only
     cases h:dec r with
     | none=>exact fun h2=>numR_none h ((needR_zero (by decide) ((runS_good _ _).2 h2)).2.2)
     | some p =>
       obtain ⟨v,W⟩:=p
       simp only [numR_some h]
       have hv:=dec_lt hbr h
       have hl:lastO (i+1) es v=es.getD (2 * i) 0 - v:=by simp [lastO]
       have hg:=g1.getD (2 * i)
       rw [hl,IntWalk.wrap64_in _ (by omega)]
       by_cases h2:v<2
       ·rw [if_pos ⟨by omega,h2⟩,decide_eq_false (by omega)]
        exact fun h3=>needR_no (by decide) ((runS_good _ _).2 h3)
       ·rw [if_neg (by omega),decide_eq_true (by omega),need_ok _ _ _ rfl]
        have hm:=run_meets (r.drop W) (es.getD (2 * i) 0 - v) (by omega)
        cases hr:runO (es.getD (2 * i) 0 - v) (r.drop W) with
        | none=>rw [hr] at hm;simp only;exact hm
        | some q =>
          obtain ⟨lo,r2⟩:=q
          rw [hr] at hm
          simp only
          unfold Meets at hm ⊢
          simp only at hm ⊢
          rw [hm]
theorem optS_meets (b:Bool) (bs:List Nat) (hb:∀ c ∈ bs,c<256):Meets (optS b ⟨bs,0⟩) (sO b bs):=by
 cases b
 ·exact rfl
 ·unfold optS sO spansR
  simp only
  cases h:dec bs with
  | none =>
    have hz:∀ ok,(needR (numR ⟨bs,0⟩).2 ok 2).e≠0:=fun ok h2=>numR_none h ((needR_zero (by decide) h2).2.2)
    rw [if_neg (hz _)]
    exact hz _
  | some p =>
    obtain ⟨n,W⟩:=p
    simp only [numR_some h]
    by_cases hn:n<1∨8<n
    ·have ho:okS (n:Int)=false:=by unfold okS;simp;omega
     rw [if_pos hn,ho,if_neg (needR_no (by decide))]
     exact needR_no (by decide)
    ·have ho:okS (n:Int)=true:=by unfold okS;simp;omega
     rw [if_neg hn,ho,need_ok _ _ _ rfl]
     simp only [if_true]
     obtain ⟨m,rfl⟩:∃ m,n=m+1:=⟨n - 1,by omega⟩
     have:=runs_meets (ds:=bs.drop W) (fun c hc=>hb c (List.mem_of_mem_drop hc)) m
     rw [show ((m+1:Nat):Int).toNat - 1=m by omega]
     exact this
theorem nO_sub {b:Bool} {bs r:List Nat} {v:Int} (h:nO b bs=some (v,r)):∀ x ∈ r,x ∈ bs:=by
 unfold nO at h
 split at h
 ·cases h;exact fun x hx=>hx
 ·split at h
  ·cases h
  ·cases h;exact fun x hx=>List.mem_of_mem_drop hx
theorem fO_sub {b:Bool} {bs r:List Nat} {v:Bool} (h:fO b bs=some (v,r)):∀ x ∈ r,x ∈ bs:=by
 unfold fO at h
 split at h
 ·cases h;exact fun x hx=>hx
 ·split at h
  ·cases h
  ·split at h
   ·cases h
   ·cases h;exact fun x hx=>List.mem_of_mem_drop hx
theorem dO_sub {b:Bool} {bs r:List Nat} {v:List Nat} (h:dO b bs=some (v,r)):∀ x ∈ r,x ∈ bs:=by
 unfold dO at h
 split at h
 ·cases h;exact fun x hx=>hx
 ·split at h
  ·cases h
  ·split at h
   ·cases h
   ·cases h;exact fun x hx=>List.mem_of_mem_drop (List.mem_of_mem_drop hx)
theorem body_meets (k:Int) (bs:List Nat) (B:Nat→Bool) (hb:∀ c ∈ bs,c<256):Meets (bodyR (k,⟨bs,0⟩) B) (bodyO k bs B):=by
 unfold bodyR bodyO
 simp only
 have m1:=optN_meets (B 0) bs
 cases h1:nO (B 0) bs with
 | none =>
   rw [h1] at m1
   exact fun h=>m1 ((optN_good _ _).2 ((optN_good _ _).2 ((optN_good _ _).2 ((optF_good _ _).2 ((optD_good _ _).2 ((optS_good _ _).2 (needR_zero (by decide) h).2.2))))))
 | some q1 =>
 obtain ⟨id,b1⟩:=q1
 rw [h1] at m1
 simp only [Meets] at m1
 simp only [m1]
 have m2:=optN_meets (B 1) b1
 cases h2:nO (B 1) b1 with
 | none =>
   rw [h2] at m2
   exact fun h=>m2 ((optN_good _ _).2 ((optN_good _ _).2 ((optF_good _ _).2 ((optD_good _ _).2 ((optS_good _ _).2 (needR_zero (by decide) h).2.2)))))
 | some q2 =>
 obtain ⟨a,b2⟩:=q2
 rw [h2] at m2
 simp only [Meets] at m2
 simp only [m2]
 have m3:=optN_meets (B 2) b2
 cases h3:nO (B 2) b2 with
 | none =>
   rw [h3] at m3
   exact fun h=>m3 ((optN_good _ _).2 ((optF_good _ _).2 ((optD_good _ _).2 ((optS_good _ _).2 (needR_zero (by decide) h).2.2))))
 | some q3 =>
 obtain ⟨off,b3⟩:=q3
 rw [h3] at m3
 simp only [Meets] at m3
 simp only [m3]
 have m4:=optN_meets (B 3) b3
 cases h4:nO (B 3) b3 with
 | none =>
   rw [h4] at m4
   exact fun h=>m4 ((optF_good _ _).2 ((optD_good _ _).2 ((optS_good _ _).2 (needR_zero (by decide) h).2.2)))
 | some q4 =>
 obtain ⟨b,b4⟩:=q4
 rw [h4] at m4
 simp only [Meets] at m4
 simp only [m4]
 have m5:=optF_meets (B 4) b4
 cases h5:fO (B 4) b4 with
 | none =>
   rw [h5] at m5
   exact fun h=>m5 ((optD_good _ _).2 ((optS_good _ _).2 (needR_zero (by decide) h).2.2))
 | some q5 =>
 obtain ⟨fin,b5⟩:=q5
 rw [h5] at m5
 simp only [Meets] at m5
 simp only [m5]
 have m6:=optD_meets (B 5) b5
 cases h6:dO (B 5) b5 with
 | none =>
   rw [h6] at m6
   exact fun h=>m6 ((optS_good _ _).2 (needR_zero (by decide) h).2.2)
 | some q6 =>
 obtain ⟨data,b6⟩:=q6
 rw [h6] at m6
 simp only [Meets] at m6
 simp only [m6]
 have m7:=optS_meets (B 6) b6 (fun c hc=>hb c (nO_sub h1 c (nO_sub h2 c (nO_sub h3 c (nO_sub h4 c (fO_sub h5 c (dO_sub h6 c hc)))))))
 cases h7:sO (B 6) b6 with
 | none =>
   rw [h7] at m7
   exact fun h=>m7 (needR_zero (by decide) h).2.2
 | some q7 =>
 obtain ⟨es,b7⟩:=q7
 rw [h7] at m7
 simp only [Meets] at m7
 simp only [m7]
 cases hr:rightB ⟨k,id,off,a,b,0,fin,data,es⟩ with
 | true =>
   rw [if_pos rfl,need_ok _ _ _ rfl]
   rfl
 | false =>
   rw [if_neg (by decide)]
   exact needR_no (by decide)
theorem frame_meets (bs:List Nat) (hb:∀ c ∈ bs,c<256):Meets (frameR ⟨bs,0⟩) (frameO bs):=by
 unfold frameR frameO
 cases h:dec bs with
 | none=>exact fun h2=>numR_none h ((bodyR_good _ _).2 h2)
 | some p =>
   obtain ⟨k,W⟩:=p
   simp only [numR_some h]
   by_cases hk:k<1∨12<k
   ·rw [if_pos hk]
    have:kn (k:Int)=false:=by unfold kn;simp;omega
    intro h2
    unfold bodyR at h2
    simp only at h2
    have:=(needR_zero (by decide) h2).2.1
    unfold rightB at this
    simp_all
   ·rw [if_neg hk]
    exact body_meets _ _ _ (fun c hc=>hb c (List.mem_of_mem_drop hc))
end Go.Proofs.YtccljifichaieaaDoor
