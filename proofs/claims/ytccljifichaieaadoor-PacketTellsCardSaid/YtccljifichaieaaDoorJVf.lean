/- Joined texts. Conditions: as each theorem lists them. -/
import Derived.Test.YtccljifichaieaaDoorJVe
import Derived.Test.YtccljifichaieaaDoorJUj
import Derived.Test.YtccljifichaieaaDoorJ10c
import Derived.Test.YtccljifichaieaaDoorJ9b
set_option linter.unusedSimpArgs false
set_option linter.unusedVariables false
set_option maxRecDepth 100000
set_option maxHeartbeats 8000000
namespace Go.Proofs.YtccljifichaieaaDoor.Rv
open Go Go.RowKit
theorem packN_lt (key:Nat) (num acked:Int) (body:List Nat) (hb:∀ z ∈ body,z<256):∀ z ∈ packN key num acked body,z<256:=fun z hz=>by
 obtain ⟨k1,k4⟩:=kN_in num acked
 unfold packN at hz
 rcases List.mem_append.1 hz with h | h
 ·exact headN_lt num _ k4 z h
 ·exact Sl.closeF_lt key num _ _ hb z h
/-- The bytes of a packet that is laid; none, if it is not. -/
def pkB (key:Nat) (num acked:Int) (fs:List Fr):List Nat:=if lpE num acked fs=0 then packN key num acked (layF fs) else []
theorem pkB_len (key:Nat) (num acked:Int) (fs:List Fr):(pkB key num acked fs).length≤240:=by
 unfold pkB
 split
 ·rename_i h
  rw [packN_len]
  unfold lpE at h
  split at h
  ·cases h
  ·split at h
   ·cases h
   ·split at h
    ·cases h
    ·have:=kN_in num acked;omega
 ·simp
theorem pkB_lt (key:Nat) (num acked:Int) (fs:List Fr) (hb:∀ f ∈ fs,BoxF f) (he:∀ f ∈ fs,f.spans.length % 2=0):∀ z ∈ pkB key num acked fs,z<256:=by
 unfold pkB
 split
 ·rename_i h
  have ha:allR fs=true:=by
   unfold lpE at h
   split at h
   ·cases h
   ·split at h
    ·cases h
    ·cases hx:allR fs with
     | true=>rfl
     | false=>rename_i h2;exact absurd hx h2
  refine packN_lt _ _ _ _ (fun z hz=>?_)
  obtain ⟨f,hf,hx⟩:=List.mem_flatMap.1 hz
  unfold allR at ha
  rw [List.all_eq_true] at ha
  exact encF_lt (ok_right (ha f hf) (he f hf) (hb f hf).2.2) z hx
 ·intro z hz;cases hz
theorem pkq_form {key:Nat} {num acked:Int} {fs:List Fr} {w w':World} {e:Ending} (h:PkQ key num acked fs w e w'):∃ A c,e=.returned (.tuple #[.slice A (pkB key num acked fs).length c,.int .i64 (lpE num acked fs)])∧w'.ownsRow w.heap.size 5 1 (.slice A (pkB key num acked fs).length c) (pkB key num acked fs).length (bv (pkB key num acked fs))∧Below w.heap.size w w':=by
 obtain ⟨h1,h2,h3⟩:=h
 unfold pkB
 by_cases hE:lpE num acked fs=0
 ·obtain ⟨A,c,rfl,ho⟩:=h3 hE
  rw [if_pos hE,packN_len,hE]
  exact ⟨A,c,rfl,ho,h1⟩
 ·rw [if_neg hE]
  exact ⟨none,0,h2 hE,own_nil _ _ _ _,h1⟩
/-- What a reader tells: the number, the frames, the error. -/
def rdF (key:Nat) (next:Int) (bs:List Nat):Int × List Fr × Int :=
 if splitE bs≠0 then (0,[],splitE bs) else
 if Sl.openB key (nmN bs next) (hdN bs) (slN bs)=false then (0,[],4) else
 if (readN (bdN key next bs).length ⟨bdN key next bs,0⟩).2.e≠0∨(readN (bdN key next bs).length ⟨bdN key next bs,0⟩).1=[] then (nmN bs next,[],11) else
 (nmN bs next,(readN (bdN key next bs).length ⟨bdN key next bs,0⟩).1,0)
theorem rdP_form {key:Nat} {next:Int} {bs:List Nat} {w w':World} {e:Ending} (h:RdP key next bs w e w'):∃ A c,e=.returned (.tuple #[.int .i64 (rdF key next bs).1,.slice A (rdF key next bs).2.1.length c,.int .i64 (rdF key next bs).2.2])∧FrsOwn w' w.heap.size (.slice A (rdF key next bs).2.1.length c) (rdF key next bs).2.1∧Below w.heap.size w w':=by
 obtain ⟨h1,h2,h3,h4,h5⟩:=h
 unfold rdF
 by_cases c1:splitE bs≠0
 ·rw [if_pos c1];exact ⟨none,0,h2 c1,FrsOwn.nil _ _,h1⟩
 ·have c1':splitE bs=0:=Classical.not_not.1 c1
  rw [if_neg c1]
  cases c2:Sl.openB key (nmN bs next) (hdN bs) (slN bs) with
  | false=>rw [if_pos rfl];exact ⟨none,0,h3 c1' c2,FrsOwn.nil _ _,h1⟩
  | true =>
    rw [if_neg (by decide)]
    by_cases c3:(readN (bdN key next bs).length ⟨bdN key next bs,0⟩).2.e≠0∨(readN (bdN key next bs).length ⟨bdN key next bs,0⟩).1=[]
    ·rw [if_pos c3];exact ⟨none,0,h4 c1' c2 c3,FrsOwn.nil _ _,h1⟩
    ·rw [if_neg c3]
     have c4:(readN (bdN key next bs).length ⟨bdN key next bs,0⟩).2.e=0:=Classical.byContradiction fun h=>c3 (.inl h)
     obtain ⟨A,c,e1,e2⟩:=h5 c1' c2 c4 (fun h=>c3 (.inr h))
     exact ⟨A,c,e1,e2,h1⟩
theorem sO_small {b:Bool} {bs r:List Nat} {es:List Int} (hb:∀ c ∈ bs,c<256) (h:sO b bs=some (es,r)):es.length≤16:=by
 unfold sO at h
 split at h
 ·cases h;simp
 ·split at h
  ·cases h
  ·split at h
   ·cases h
   ·have:=(runsO_in (fun c hc=>hb c (List.mem_of_mem_drop hc)) _ _ h).2.2
    simp only at this
    omega
theorem frameO_small {bs r:List Nat} {f:Fr} (hb:∀ c ∈ bs,c<256) (h:frameO bs=some (f,r)):f.spans.length≤16:=by
 unfold frameO at h
 cases hd:dec bs with
 | none=>simp only [hd] at h;cases h
 | some p =>
   obtain ⟨k,W⟩:=p
   simp only [hd] at h
   split at h
   ·cases h
   ·unfold bodyO at h
    cases h1:nO (nbit (k:Int) 0) (bs.drop W) with
    | none=>simp only [h1] at h;cases h
    | some q1 =>
    obtain ⟨id,b1⟩:=q1
    simp only [h1] at h
    cases h2:nO (nbit (k:Int) 1) b1 with
    | none=>simp only [h2] at h;cases h
    | some q2 =>
    obtain ⟨a,b2⟩:=q2
    simp only [h2] at h
    cases h3:nO (nbit (k:Int) 2) b2 with
    | none=>simp only [h3] at h;cases h
    | some q3 =>
    obtain ⟨off,b3⟩:=q3
    simp only [h3] at h
    cases h4:nO (nbit (k:Int) 3) b3 with
    | none=>simp only [h4] at h;cases h
    | some q4 =>
    obtain ⟨b,b4⟩:=q4
    simp only [h4] at h
    cases h5:fO (nbit (k:Int) 4) b4 with
    | none=>simp only [h5] at h;cases h
    | some q5 =>
    obtain ⟨fin,b5⟩:=q5
    simp only [h5] at h
    cases h6:dO (nbit (k:Int) 5) b5 with
    | none=>simp only [h6] at h;cases h
    | some q6 =>
    obtain ⟨data,b6⟩:=q6
    simp only [h6] at h
    cases h7:sO (nbit (k:Int) 6) b6 with
    | none=>simp only [h7] at h;cases h
    | some q7 =>
    obtain ⟨es,b7⟩:=q7
    simp only [h7] at h
    split at h
    ·simp only [Option.some.injEq,Prod.mk.injEq] at h
     obtain ⟨rfl,_⟩:=h
     exact sO_small (fun c hc=>hb c (List.mem_of_mem_drop (nO_sub h1 c (nO_sub h2 c (nO_sub h3 c (nO_sub h4 c (fO_sub h5 c (dO_sub h6 c hc)))))))) h7
    ·cases h
theorem readN_small:∀ (m:Nat) (bs:List Nat),(∀ c ∈ bs,c<256)→(readN m ⟨bs,0⟩).1.length≤m∧∀ f ∈ (readN m ⟨bs,0⟩).1,f.spans.length≤16
 | 0,bs,_=>⟨Nat.le_refl _,fun f hf=>by cases hf⟩
 | m+1,bs,hb=>by
   have hm:=frame_meets bs hb
   unfold readN
   by_cases h0:bs.length=0
   ·rw [if_pos h0];exact ⟨Nat.zero_le _,fun f hf=>by cases hf⟩
   ·rw [if_neg h0]
    cases hf:frameO bs with
    | none =>
      rw [hf] at hm
      have hm:(frameR ⟨bs,0⟩).2.e≠0:=hm
      rw [if_neg hm];exact ⟨Nat.zero_le _,fun f hf=>by cases hf⟩
    | some q =>
      obtain ⟨f,r⟩:=q
      obtain ⟨g1,g2,_⟩:=frameO_sub hb hf
      have ih:=readN_small m r g1
      rw [g2,if_pos rfl]
      refine ⟨Nat.succ_le_succ ih.1,fun g hg=>?_⟩
      rcases List.mem_cons.1 hg with rfl | hg
      ·exact frameO_small hb hf
      ·exact ih.2 g hg
theorem rdF_small {key:Nat} {next:Int} {bs:List Nat} (hb:∀ c ∈ bs,c<256) (hl:bs.length≤1000000):(rdF key next bs).2.1.length≤1000000∧∀ f ∈ (rdF key next bs).2.1,f.spans.length≤16:=by
 have hbd:∀ c ∈ bdN key next bs,c<256:=fun c hc=>by
  unfold bdN at hc
  refine Sl.maskN_lt _ _ (fun z hz=>?_) c hc
  unfold slN at hz
  exact hb z (List.mem_of_mem_drop (List.mem_of_mem_take hz))
 have hlen:(bdN key next bs).length≤1000000:=by
  unfold bdN slN
  rw [Sl.maskN_len,List.length_take,List.length_drop]
  omega
 have h:=readN_small (bdN key next bs).length (bdN key next bs) hbd
 unfold rdF
 split
 ·exact ⟨Nat.zero_le _,fun f hf=>by cases hf⟩
 ·split
  ·exact ⟨Nat.zero_le _,fun f hf=>by cases hf⟩
  ·split
   ·exact ⟨Nat.zero_le _,fun f hf=>by cases hf⟩
   ·exact ⟨Nat.le_trans h.1 hlen,h.2⟩
end Go.Proofs.YtccljifichaieaaDoor.Rv
