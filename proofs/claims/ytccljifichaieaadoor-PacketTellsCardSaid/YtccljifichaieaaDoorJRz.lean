/- Joined texts. Conditions: as each theorem lists them. -/
import Derived.Test.YtccljifichaieaaDoorJRr
import Derived.Test.YtccljifichaieaaDoorJRl
set_option linter.unusedSimpArgs false
set_option linter.unusedVariables false
set_option maxRecDepth 100000
set_option maxHeartbeats 8000000
namespace Go.Proofs.YtccljifichaieaaDoor
open Go Go.RowKit
theorem rright_yes (f:Fr) (A:Option Addr) (n c:Nat) (A2:Option Addr) (n2 c2:Nat) (w:World) (h:IsFr w w.heap.size f A n c A2 n2 c2) (hof:OkF f) :
  Calls Tryd.prog 51 #[.agg #[.int .i64 f.k,.int .i64 f.id,.int .i64 f.off,.int .i64 f.a,.int .i64 f.b,.int .i64 f.note,.bool f.fin,.slice A n c,.slice A2 n2 c2]] w fun e w'=>e=.returned (.bool true)∧Below w.heap.size w w':=by
 obtain ⟨k,id,off,a,b,note,fin,data,spans⟩:=f
 obtain ⟨g1,g2,g3,g4,g5,g6⟩:=h
 obtain ⟨k1,k2⟩:=hof.k
 obtain ⟨n1,nf,na,nb⟩:=hof.num
 have hbo:=hof.bo
 have hdt:=hof.data.1
 have hro:=hof.room
 have hdg:=hof.dg
 have zid:=hof.zid
 have za:=hof.za
 have zoff:=hof.zoff
 have zb:=hof.zb
 have zfin:=hof.zfin
 have zdata:=hof.zdata
 have zsp:=hof.zsp
 clear hof
 simp only at *
 have hk:k=1∨k=2∨k=3∨k=4∨k=5∨k=6∨k=7∨k=8∨k=9∨k=10∨k=11∨k=12:=by omega
 rcases hk with rfl | rfl | rfl | rfl | rfl | rfl | rfl | rfl | rfl | rfl | rfl | rfl
 ·skip
  obtain rfl:id=0:=by simpa using zid
  obtain rfl:off=0:=by simpa using zoff
  obtain rfl:a=0:=by simpa using za
  obtain rfl:b=0:=by simpa using zb
  obtain rfl:fin=false:=by simpa using zfin
  obtain rfl:data=[]:=by simpa using zdata
  obtain rfl:n=0:=by simpa using g1.symm
  obtain rfl:spans=[]:=by simpa using zsp
  obtain rfl:n2=0:=by have:=g4;simp at this;omega
  exact rright_1 0 0 0 0 note false A 0 c A2 0 c2 w n1 nf na nb (by omega)
 ·skip
  obtain rfl:id=0:=by simpa using zid
  obtain rfl:off=0:=by simpa using zoff
  obtain rfl:a=0:=by simpa using za
  obtain rfl:b=0:=by simpa using zb
  obtain rfl:fin=false:=by simpa using zfin
  obtain rfl:data=[]:=by simpa using zdata
  obtain rfl:n=0:=by simpa using g1.symm
  obtain ⟨m,m1,m8,hs⟩:∃ m,1≤m∧m≤8∧SpsOk spans m:=by simpa using zsp
  obtain rfl:n2=m:=by have:=hs.1;omega
  exact rright_2 0 0 0 0 note false A 0 c A2 n2 c2 w n1 nf na nb (by omega) spans hs m1 m8 g6 g5
 ·skip
  obtain rfl:a=0:=by simpa using za
  obtain rfl:b=0:=by simpa using zb
  obtain rfl:spans=[]:=by simpa using zsp
  obtain rfl:n2=0:=by have:=g4;simp at this;omega
  exact rright_3 id off 0 0 note fin A n c A2 0 c2 w n1 nf na nb (by omega) (by omega)
 ·skip
  obtain rfl:fin=false:=by simpa using zfin
  obtain rfl:data=[]:=by simpa using zdata
  obtain rfl:n=0:=by simpa using g1.symm
  obtain rfl:spans=[]:=by simpa using zsp
  obtain rfl:n2=0:=by have:=g4;simp at this;omega
  exact rright_4 id off a b note false A 0 c A2 0 c2 w n1 nf na nb (by omega) hbo
 ·skip
  obtain rfl:off=0:=by simpa using zoff
  obtain rfl:b=0:=by simpa using zb
  obtain rfl:fin=false:=by simpa using zfin
  obtain rfl:data=[]:=by simpa using zdata
  obtain rfl:n=0:=by simpa using g1.symm
  obtain rfl:spans=[]:=by simpa using zsp
  obtain rfl:n2=0:=by have:=g4;simp at this;omega
  exact rright_5 id 0 a 0 note false A 0 c A2 0 c2 w n1 nf na nb (by omega)
 ·skip
  obtain rfl:id=0:=by simpa using zid
  obtain rfl:off=0:=by simpa using zoff
  obtain rfl:b=0:=by simpa using zb
  obtain rfl:fin=false:=by simpa using zfin
  obtain rfl:data=[]:=by simpa using zdata
  obtain rfl:n=0:=by simpa using g1.symm
  obtain rfl:spans=[]:=by simpa using zsp
  obtain rfl:n2=0:=by have:=g4;simp at this;omega
  exact rright_6 0 0 a 0 note false A 0 c A2 0 c2 w n1 nf na nb (by omega)
 ·skip
  obtain rfl:off=0:=by simpa using zoff
  obtain rfl:b=0:=by simpa using zb
  obtain rfl:fin=false:=by simpa using zfin
  obtain rfl:data=[]:=by simpa using zdata
  obtain rfl:n=0:=by simpa using g1.symm
  obtain rfl:spans=[]:=by simpa using zsp
  obtain rfl:n2=0:=by have:=g4;simp at this;omega
  exact rright_7 id 0 a 0 note false A 0 c A2 0 c2 w n1 nf na nb (by omega)
 ·skip
  obtain rfl:id=0:=by simpa using zid
  obtain rfl:off=0:=by simpa using zoff
  obtain rfl:b=0:=by simpa using zb
  obtain rfl:data=[]:=by simpa using zdata
  obtain rfl:n=0:=by simpa using g1.symm
  obtain rfl:spans=[]:=by simpa using zsp
  obtain rfl:n2=0:=by have:=g4;simp at this;omega
  exact rright_8 0 0 a 0 note fin A 0 c A2 0 c2 w n1 nf na nb (by omega)
 ·skip
  obtain rfl:id=0:=by simpa using zid
  obtain rfl:off=0:=by simpa using zoff
  obtain rfl:a=0:=by simpa using za
  obtain rfl:b=0:=by simpa using zb
  obtain rfl:fin=false:=by simpa using zfin
  obtain rfl:spans=[]:=by simpa using zsp
  obtain rfl:n2=0:=by have:=g4;simp at this;omega
  exact rright_9 0 0 0 0 note false A n c A2 0 c2 w n1 nf na nb (by omega) (by have:=List.length_pos_iff.2 (hdg rfl);omega)
 ·skip
  obtain rfl:off=0:=by simpa using zoff
  obtain rfl:a=0:=by simpa using za
  obtain rfl:b=0:=by simpa using zb
  obtain rfl:fin=false:=by simpa using zfin
  obtain rfl:data=[]:=by simpa using zdata
  obtain rfl:n=0:=by simpa using g1.symm
  obtain rfl:spans=[]:=by simpa using zsp
  obtain rfl:n2=0:=by have:=g4;simp at this;omega
  exact rright_10 id 0 0 0 note false A 0 c A2 0 c2 w n1 nf na nb (by omega)
 ·skip
  obtain rfl:off=0:=by simpa using zoff
  obtain rfl:a=0:=by simpa using za
  obtain rfl:b=0:=by simpa using zb
  obtain rfl:fin=false:=by simpa using zfin
  obtain rfl:data=[]:=by simpa using zdata
  obtain rfl:n=0:=by simpa using g1.symm
  obtain rfl:spans=[]:=by simpa using zsp
  obtain rfl:n2=0:=by have:=g4;simp at this;omega
  exact rright_11 id 0 0 0 note false A 0 c A2 0 c2 w n1 nf na nb (by omega)
 ·skip
  obtain rfl:id=0:=by simpa using zid
  obtain rfl:off=0:=by simpa using zoff
  obtain rfl:b=0:=by simpa using zb
  obtain rfl:fin=false:=by simpa using zfin
  obtain rfl:data=[]:=by simpa using zdata
  obtain rfl:n=0:=by simpa using g1.symm
  obtain rfl:spans=[]:=by simpa using zsp
  obtain rfl:n2=0:=by have:=g4;simp at this;omega
  exact rright_12 0 0 a 0 note false A 0 c A2 0 c2 w n1 nf na nb (by omega)
theorem enc_of {f:Fr} {k:Int} {L:List Int} {n:Nat} {w':World} {base:Nat} {v:Value} (h:nums f=k :: L) (hn:f.data.length=n) (hk:sumW [k]=1)
  (ho:w'.ownsRow base 5 1 v (1+sumW L+n) (encs [k] ++ encs L ++ bv f.data)):w'.ownsRow base 5 1 v (encF f).length (bv (encF f)):=by
 have e1:(encF f).length=1+sumW L+n:=by
  unfold encF
  rw [List.length_append,encsB_len,h,hn]
  simp only [sumW,List.map_cons,List.map_nil,List.sum_cons,List.sum_nil,List.foldl] at hk ⊢
  omega
 have e2:bv (encF f)=encs [k] ++ encs L ++ bv f.data:=by
  unfold encF
  rw [h,show encsB (k :: L)=encsB [k] ++ encsB L by simp [encsB],bv_app,bv_app,encs_bv,encs_bv]
 rw [e1,e2]
 exact ho
theorem rlay_not2 (f:Fr) (A:Option Addr) (n c:Nat) (A2:Option Addr) (n2 c2:Nat) (w:World) (h:IsFr w w.heap.size f A n c A2 n2 c2) (hof:OkF f) (h2:f.k≠2) :
  Calls Tryd.prog 52 #[.agg #[.int .i64 f.k,.int .i64 f.id,.int .i64 f.off,.int .i64 f.a,.int .i64 f.b,.int .i64 f.note,.bool f.fin,.slice A n c,.slice A2 n2 c2]] w fun e w'=>∃ v',e=.returned v'∧w'.ownsRow w.heap.size 5 1 v' (encF f).length (bv (encF f))∧Below w.heap.size w w':=by
 have hmay:=nums_may hof
 obtain ⟨k,id,off,a,b,note,fin,data,spans⟩:=f
 obtain ⟨g1,g2,g3,g4,g5,g6⟩:=h
 obtain ⟨k1,k2⟩:=hof.k
 have hdt:=hof.data.1
 have zid:=hof.zid
 have za:=hof.za
 have zoff:=hof.zoff
 have zb:=hof.zb
 have zfin:=hof.zfin
 have zdata:=hof.zdata
 have zsp:=hof.zsp
 clear hof
 simp only at *
 have hk:k=1∨k=3∨k=4∨k=5∨k=6∨k=7∨k=8∨k=9∨k=10∨k=11∨k=12:=by omega
 rcases hk with rfl | rfl | rfl | rfl | rfl | rfl | rfl | rfl | rfl | rfl | rfl
 ·skip
  obtain rfl:id=0:=by simpa using zid
  obtain rfl:off=0:=by simpa using zoff
  obtain rfl:a=0:=by simpa using za
  obtain rfl:b=0:=by simpa using zb
  obtain rfl:fin=false:=by simpa using zfin
  obtain rfl:data=[]:=by simpa using zdata
  obtain rfl:n=0:=by simpa using g1.symm
  obtain rfl:spans=[]:=by simpa using zsp
  obtain rfl:n2=0:=by have:=g4;simp at this;omega
  have hN:nums ⟨1,0,0,0,0,note,false,[],[]⟩=1 :: []:=by kernel_rfl
  rw [hN] at hmay
  refine (rlay_1 0 0 0 0 note false [] A 0 c A2 0 c2 w (fun x hx=>hmay x (List.mem_cons_of_mem _ hx)) g3 (by decide)).mono ?_
  rintro e w' ⟨v',rfl,ho,hb⟩
  exact ⟨v',rfl,enc_of hN rfl (by decide) ho,hb⟩
 ·skip
  obtain rfl:a=0:=by simpa using za
  obtain rfl:b=0:=by simpa using zb
  subst g1
  obtain rfl:spans=[]:=by simpa using zsp
  obtain rfl:n2=0:=by have:=g4;simp at this;omega
  have hN:nums ⟨3,id,off,0,0,note,fin,data,[]⟩=3 :: [id,off,bitI fin,(data.length:Int)]:=by kernel_rfl
  rw [hN] at hmay
  refine (rlay_3 id off 0 0 note fin data A data.length c A2 0 c2 w (fun x hx=>hmay x (List.mem_cons_of_mem _ hx)) g3 hdt).mono ?_
  rintro e w' ⟨v',rfl,ho,hb⟩
  exact ⟨v',rfl,enc_of hN rfl (by decide) ho,hb⟩
 ·skip
  obtain rfl:fin=false:=by simpa using zfin
  obtain rfl:data=[]:=by simpa using zdata
  obtain rfl:n=0:=by simpa using g1.symm
  obtain rfl:spans=[]:=by simpa using zsp
  obtain rfl:n2=0:=by have:=g4;simp at this;omega
  have hN:nums ⟨4,id,off,a,b,note,false,[],[]⟩=4 :: [id,a,off,b]:=by kernel_rfl
  rw [hN] at hmay
  refine (rlay_4 id off a b note false [] A 0 c A2 0 c2 w (fun x hx=>hmay x (List.mem_cons_of_mem _ hx)) g3 (by decide)).mono ?_
  rintro e w' ⟨v',rfl,ho,hb⟩
  exact ⟨v',rfl,enc_of hN rfl (by decide) ho,hb⟩
 ·skip
  obtain rfl:off=0:=by simpa using zoff
  obtain rfl:b=0:=by simpa using zb
  obtain rfl:fin=false:=by simpa using zfin
  obtain rfl:data=[]:=by simpa using zdata
  obtain rfl:n=0:=by simpa using g1.symm
  obtain rfl:spans=[]:=by simpa using zsp
  obtain rfl:n2=0:=by have:=g4;simp at this;omega
  have hN:nums ⟨5,id,0,a,0,note,false,[],[]⟩=5 :: [id,a]:=by kernel_rfl
  rw [hN] at hmay
  refine (rlay_5 id 0 a 0 note false [] A 0 c A2 0 c2 w (fun x hx=>hmay x (List.mem_cons_of_mem _ hx)) g3 (by decide)).mono ?_
  rintro e w' ⟨v',rfl,ho,hb⟩
  exact ⟨v',rfl,enc_of hN rfl (by decide) ho,hb⟩
 ·skip
  obtain rfl:id=0:=by simpa using zid
  obtain rfl:off=0:=by simpa using zoff
  obtain rfl:b=0:=by simpa using zb
  obtain rfl:fin=false:=by simpa using zfin
  obtain rfl:data=[]:=by simpa using zdata
  obtain rfl:n=0:=by simpa using g1.symm
  obtain rfl:spans=[]:=by simpa using zsp
  obtain rfl:n2=0:=by have:=g4;simp at this;omega
  have hN:nums ⟨6,0,0,a,0,note,false,[],[]⟩=6 :: [a]:=by kernel_rfl
  rw [hN] at hmay
  refine (rlay_6 0 0 a 0 note false [] A 0 c A2 0 c2 w (fun x hx=>hmay x (List.mem_cons_of_mem _ hx)) g3 (by decide)).mono ?_
  rintro e w' ⟨v',rfl,ho,hb⟩
  exact ⟨v',rfl,enc_of hN rfl (by decide) ho,hb⟩
 ·skip
  obtain rfl:off=0:=by simpa using zoff
  obtain rfl:b=0:=by simpa using zb
  obtain rfl:fin=false:=by simpa using zfin
  obtain rfl:data=[]:=by simpa using zdata
  obtain rfl:n=0:=by simpa using g1.symm
  obtain rfl:spans=[]:=by simpa using zsp
  obtain rfl:n2=0:=by have:=g4;simp at this;omega
  have hN:nums ⟨7,id,0,a,0,note,false,[],[]⟩=7 :: [id,a]:=by kernel_rfl
  rw [hN] at hmay
  refine (rlay_7 id 0 a 0 note false [] A 0 c A2 0 c2 w (fun x hx=>hmay x (List.mem_cons_of_mem _ hx)) g3 (by decide)).mono ?_
  rintro e w' ⟨v',rfl,ho,hb⟩
  exact ⟨v',rfl,enc_of hN rfl (by decide) ho,hb⟩
 ·skip
  obtain rfl:id=0:=by simpa using zid
  obtain rfl:off=0:=by simpa using zoff
  obtain rfl:b=0:=by simpa using zb
  obtain rfl:data=[]:=by simpa using zdata
  obtain rfl:n=0:=by simpa using g1.symm
  obtain rfl:spans=[]:=by simpa using zsp
  obtain rfl:n2=0:=by have:=g4;simp at this;omega
  have hN:nums ⟨8,0,0,a,0,note,fin,[],[]⟩=8 :: [a,bitI fin]:=by kernel_rfl
  rw [hN] at hmay
  refine (rlay_8 0 0 a 0 note fin [] A 0 c A2 0 c2 w (fun x hx=>hmay x (List.mem_cons_of_mem _ hx)) g3 (by decide)).mono ?_
  rintro e w' ⟨v',rfl,ho,hb⟩
  exact ⟨v',rfl,enc_of hN rfl (by decide) ho,hb⟩
 ·skip
  obtain rfl:id=0:=by simpa using zid
  obtain rfl:off=0:=by simpa using zoff
  obtain rfl:a=0:=by simpa using za
  obtain rfl:b=0:=by simpa using zb
  obtain rfl:fin=false:=by simpa using zfin
  subst g1
  obtain rfl:spans=[]:=by simpa using zsp
  obtain rfl:n2=0:=by have:=g4;simp at this;omega
  have hN:nums ⟨9,0,0,0,0,note,false,data,[]⟩=9 :: [(data.length:Int)]:=by kernel_rfl
  rw [hN] at hmay
  refine (rlay_9 0 0 0 0 note false data A data.length c A2 0 c2 w (fun x hx=>hmay x (List.mem_cons_of_mem _ hx)) g3 hdt).mono ?_
  rintro e w' ⟨v',rfl,ho,hb⟩
  exact ⟨v',rfl,enc_of hN rfl (by decide) ho,hb⟩
 ·skip
  obtain rfl:off=0:=by simpa using zoff
  obtain rfl:a=0:=by simpa using za
  obtain rfl:b=0:=by simpa using zb
  obtain rfl:fin=false:=by simpa using zfin
  obtain rfl:data=[]:=by simpa using zdata
  obtain rfl:n=0:=by simpa using g1.symm
  obtain rfl:spans=[]:=by simpa using zsp
  obtain rfl:n2=0:=by have:=g4;simp at this;omega
  have hN:nums ⟨10,id,0,0,0,note,false,[],[]⟩=10 :: [id]:=by kernel_rfl
  rw [hN] at hmay
  refine (rlay_10 id 0 0 0 note false [] A 0 c A2 0 c2 w (fun x hx=>hmay x (List.mem_cons_of_mem _ hx)) g3 (by decide)).mono ?_
  rintro e w' ⟨v',rfl,ho,hb⟩
  exact ⟨v',rfl,enc_of hN rfl (by decide) ho,hb⟩
 ·skip
  obtain rfl:off=0:=by simpa using zoff
  obtain rfl:a=0:=by simpa using za
  obtain rfl:b=0:=by simpa using zb
  obtain rfl:fin=false:=by simpa using zfin
  obtain rfl:data=[]:=by simpa using zdata
  obtain rfl:n=0:=by simpa using g1.symm
  obtain rfl:spans=[]:=by simpa using zsp
  obtain rfl:n2=0:=by have:=g4;simp at this;omega
  have hN:nums ⟨11,id,0,0,0,note,false,[],[]⟩=11 :: [id]:=by kernel_rfl
  rw [hN] at hmay
  refine (rlay_11 id 0 0 0 note false [] A 0 c A2 0 c2 w (fun x hx=>hmay x (List.mem_cons_of_mem _ hx)) g3 (by decide)).mono ?_
  rintro e w' ⟨v',rfl,ho,hb⟩
  exact ⟨v',rfl,enc_of hN rfl (by decide) ho,hb⟩
 ·skip
  obtain rfl:id=0:=by simpa using zid
  obtain rfl:off=0:=by simpa using zoff
  obtain rfl:b=0:=by simpa using zb
  obtain rfl:fin=false:=by simpa using zfin
  obtain rfl:data=[]:=by simpa using zdata
  obtain rfl:n=0:=by simpa using g1.symm
  obtain rfl:spans=[]:=by simpa using zsp
  obtain rfl:n2=0:=by have:=g4;simp at this;omega
  have hN:nums ⟨12,0,0,a,0,note,false,[],[]⟩=12 :: [a]:=by kernel_rfl
  rw [hN] at hmay
  refine (rlay_12 0 0 a 0 note false [] A 0 c A2 0 c2 w (fun x hx=>hmay x (List.mem_cons_of_mem _ hx)) g3 (by decide)).mono ?_
  rintro e w' ⟨v',rfl,ho,hb⟩
  exact ⟨v',rfl,enc_of hN rfl (by decide) ho,hb⟩
/-- The reference's lay of a right frame. -/
theorem rlay_yes (f:Fr) (A:Option Addr) (n c:Nat) (A2:Option Addr) (n2 c2:Nat) (w:World) (h:IsFr w w.heap.size f A n c A2 n2 c2) (hof:OkF f) :
  Calls Tryd.prog 52 #[.agg #[.int .i64 f.k,.int .i64 f.id,.int .i64 f.off,.int .i64 f.a,.int .i64 f.b,.int .i64 f.note,.bool f.fin,.slice A n c,.slice A2 n2 c2]] w fun e w'=>∃ v',e=.returned v'∧w'.ownsRow w.heap.size 5 1 v' (encF f).length (bv (encF f))∧Below w.heap.size w w':=by
 by_cases h2:f.k=2
 ·have hmay:=nums_may hof
  obtain ⟨k,id,off,a,b,note,fin,data,spans⟩:=f
  obtain ⟨g1,g2,g3,g4,g5,g6⟩:=h
  have zid:=hof.zid
  have za:=hof.za
  have zoff:=hof.zoff
  have zb:=hof.zb
  have zfin:=hof.zfin
  have zdata:=hof.zdata
  have zsp:=hof.zsp
  clear hof
  simp only at *
  subst h2
  obtain rfl:id=0:=by simpa using zid
  obtain rfl:off=0:=by simpa using zoff
  obtain rfl:a=0:=by simpa using za
  obtain rfl:b=0:=by simpa using zb
  obtain rfl:fin=false:=by simpa using zfin
  obtain rfl:data=[]:=by simpa using zdata
  obtain rfl:n=0:=by simpa using g1.symm
  obtain ⟨m,m1,m8,hs⟩:∃ m,1≤m∧m≤8∧SpsOk spans m:=by simpa using zsp
  obtain rfl:n2=m:=by have:=hs.1;omega
  have hN:nums ⟨2,0,0,0,0,note,false,[],spans⟩=2 :: (n2:Int) :: runN spans n2:=by
   show (2 :: selN (nbit 2) (numV ⟨2,0,0,0,0,note,false,[],spans⟩) 7) ++ runN spans (spans.length / 2)=_
   rw [show selN (nbit 2) (numV ⟨2,0,0,0,0,note,false,[],spans⟩) 7=[((spans.length / 2:Nat):Int)] by kernel_rfl,show spans.length / 2=n2 by omega]
   rfl
  rw [hN] at hmay
  refine (rlay_2 note spans A c A2 n2 c2 w hs m8 g5 g6 (fun x hx=>hmay x (List.mem_cons_of_mem _ hx))).mono ?_
  rintro e w' ⟨v',rfl,ho,hb⟩
  exact ⟨v',rfl,enc_of (n:=0) hN rfl (by decide) (by rw [Nat.add_zero,show bv ([]:List Nat)=[] from rfl,List.append_nil];exact ho),hb⟩
 ·exact rlay_not2 f A n c A2 n2 c2 w h hof h2
end Go.Proofs.YtccljifichaieaaDoor
