/- Joined texts. Conditions: as each theorem lists them. -/
import Derived.Test.YtccljifichaieaaDoorJRv
set_option linter.unusedSimpArgs false
set_option linter.unusedVariables false
set_option maxRecDepth 100000
set_option maxHeartbeats 8000000
namespace Go.Proofs.YtccljifichaieaaDoor.Rv
open Go Go.RowKit
theorem rtake_nil (A:Option Addr) (cap:Nat) (w:World) :
  Calls Tryd.prog 79 #[.slice A 0 cap] w fun e w'=>e=.returned (.tuple #[.int .i64 0,.slice none 0 0,.int .i64 3])∧w=w':=by
 go_enter Tryd.func79,Tryd.ntmps79
 go_wp2
 go_ret3
 exact ⟨rfl,rfl⟩
theorem rtake_q0 (b off n cap b0 B:Nat) (r:List Nat) (rest:List Value) (w:World) (hn:n≤cap) (hW:1≤n) (hr:r.length=0) (hb0:b0<256) (hbq:b0 / 64=0) (hbs:∀ c ∈ r,c<256) (hm:n≤140737488355328) (hB:B≤w.heap.size)
  (h0:w.cell? ⟨b,off,none⟩=some (.int .u8 (b0:Int))) (hc:∀ j,j<r.length→w.cell? ⟨b,off+(j+1),none⟩=some (.int .u8 ((r.getD j 0:Nat):Int)))
  (ht:Rd w B (some ⟨b,off+1,none⟩) (n - 1) rest) (h1:ones rest) :
  Calls Tryd.prog 79 #[.slice (some ⟨b,off,none⟩) n cap] w fun e w'=>∃ v',e=.returned (.tuple #[.int .i64 ((valF b0 r:Nat):Int),v',.int .i64 0])∧w'.ownsRow w.heap.size 5 1 v' (n - 1) rest∧Below w.heap.size w w':=by
 have HC:=Lib.hid hc
 have HB:=Lib.hid hbs
 have HV:=Lib.hid (valF_lt b0)
 have H1:=Lib.hid h1
 have hdiv:((b0:Nat):Int) / 64=0:=by omega
 have hnn:(0:Int)<(n:Int):=by omega
 have hnz:((n:Int) == 0)=false:=by simp;omega
 have hnw:(1:Int)≤(n:Int):=by omega
 obtain ⟨i0,hi,hz0,hz1,hz2⟩:=info_parts infoB
 have HI:=Lib.hid (And.intro hi (And.intro hz0 (And.intro hz1 hz2)))
 clear hi hz0 hz1 hz2 hc hbs hbq h1
 by_cases hcw:cap=1
 ·subst hcw
  obtain rfl:n=1:=by omega
  have HT:Hid (Rd w B (some ⟨b,off,none⟩) 0 rest):=⟨by have:=ht.1;simpa using this,fun h=>absurd h (by omega)⟩
  clear ht
  go_enter Tryd.func79,Tryd.ntmps79
  go_wp2
  go_loop [5,6] (fun k i=>∃ kk ii:Int,i=.int .u8 ii∧k=.int .i64 kk∧((kk=1∧ii=0))) (fun _ i=>(intOf i).toNat)
  case atStart=>exact ⟨1,0,rfl,rfl,by omega⟩
  case round =>
   obtain ⟨kk,ii,rfl,rfl,h⟩:=hrel
   rcases h with ⟨rfl,rfl⟩
   ·go_wp2_with fail
    go_loop [7,8] (fun v i=>∃ j:Nat,j≤0∧i=.int .i64 ((j:Int)+1)∧v=.int .i64 ((valF b0 (r.take j):Nat):Int)) (fun _ i=>1 - (intOf i).toNat)
    case atStart=>exact ⟨0,by omega,by go_num,by simp [valF]⟩
    case round =>
     obtain ⟨j,hj,rfl,rfl⟩:=hrel
     by_cases hlt:j<0
     ·exact absurd hlt (by omega)
     ·have e:r.take j=r:=List.take_of_length_le (by omega)
      rw [e]
      clear e
      obtain ⟨vv,hvv⟩:∃ vv,Hid (valF b0 r=vv):=⟨_,rfl⟩
      rw [hvv.out]
      go_wp2_with (at_builtin;refine wpList_app _ rfl _ _ 24 rfl w.heap.size 5 i0 (.int .u8 0) 1 1 Tryd.underlying24 HI.out.1 HI.out.2.1 HI.out.2.2.1 HI.out.2.2.2 rfl (by decide) (.slice (some ⟨w.heap.size,0,none⟩) 0 0) 0 [] rfl (own_new w #[] 5 1 0 w.heap.size w.heap.size rfl rfl (by unfold maxLen;omega) (Nat.le_refl _)) B (some ⟨b,off,none⟩) 0 0 rest rfl (by rw [Nat.mul_one];exact HT.out.below ((Below.refl _ _).alloc (Nat.le_refl _) _) hB) H1.out (by unfold maxLen;omega) (by omega) (by simp) ?_)
      intro v1 w1 hown1 hgrow1
      have HB1:Hid (Below w.heap.size w w1):=((Below.refl _ _).alloc (Nat.le_refl _) _).grown hgrow1 (by simp) (fun j hj=>by simp [Value.ownBlock] at hj;omega)
      try simp only [Nat.zero_add,List.nil_append] at hown1
      have HO:=Lib.hid hown1
      clear hown1 hgrow1
      go_wp2
      go_ret3
      exact ⟨_,by rw [hvv.out];rfl,HO.out,HB1.out⟩
 ·have HT:=Lib.hid ht
  clear ht
  go_enter Tryd.func79,Tryd.ntmps79
  go_wp2
  go_loop [5,6] (fun k i=>∃ kk ii:Int,i=.int .u8 ii∧k=.int .i64 kk∧((kk=1∧ii=0))) (fun _ i=>(intOf i).toNat)
  case atStart=>exact ⟨1,0,rfl,rfl,by omega⟩
  case round =>
   obtain ⟨kk,ii,rfl,rfl,h⟩:=hrel
   rcases h with ⟨rfl,rfl⟩
   ·go_wp2_with fail
    go_loop [7,8] (fun v i=>∃ j:Nat,j≤0∧i=.int .i64 ((j:Int)+1)∧v=.int .i64 ((valF b0 (r.take j):Nat):Int)) (fun _ i=>1 - (intOf i).toNat)
    case atStart=>exact ⟨0,by omega,by go_num,by simp [valF]⟩
    case round =>
     obtain ⟨j,hj,rfl,rfl⟩:=hrel
     by_cases hlt:j<0
     ·exact absurd hlt (by omega)
     ·have e:r.take j=r:=List.take_of_length_le (by omega)
      rw [e]
      clear e
      obtain ⟨vv,hvv⟩:∃ vv,Hid (valF b0 r=vv):=⟨_,rfl⟩
      rw [hvv.out]
      go_wp2_with (at_builtin;refine wpList_app _ rfl _ _ 24 rfl w.heap.size 5 i0 (.int .u8 0) 1 1 Tryd.underlying24 HI.out.1 HI.out.2.1 HI.out.2.2.1 HI.out.2.2.2 rfl (by decide) (.slice (some ⟨w.heap.size,0,none⟩) 0 0) 0 [] rfl (own_new w #[] 5 1 0 w.heap.size w.heap.size rfl rfl (by unfold maxLen;omega) (Nat.le_refl _)) B (some ⟨b,off+1,none⟩) (n - 1) (cap - 1) rest rfl (by rw [Nat.mul_one];exact HT.out.below ((Below.refl _ _).alloc (Nat.le_refl _) _) hB) H1.out (by unfold maxLen;omega) (by omega) (by simp) ?_)
      intro v1 w1 hown1 hgrow1
      have HB1:Hid (Below w.heap.size w w1):=((Below.refl _ _).alloc (Nat.le_refl _) _).grown hgrow1 (by simp) (fun j hj=>by simp [Value.ownBlock] at hj;omega)
      try simp only [Nat.zero_add,List.nil_append] at hown1
      have HO:=Lib.hid hown1
      clear hown1 hgrow1
      go_wp2
      go_ret3
      exact ⟨_,by rw [hvv.out];rfl,HO.out,HB1.out⟩
theorem rtake_less2 (b off n cap b0:Nat) (w:World) (hW:n<2) (hn0:0<n) (hbq:b0 / 64=1) (h0:w.cell? ⟨b,off,none⟩=some (.int .u8 (b0:Int))) :
  Calls Tryd.prog 79 #[.slice (some ⟨b,off,none⟩) n cap] w fun e w'=>e=.returned (.tuple #[.int .i64 0,.slice none 0 0,.int .i64 3])∧w=w':=by
 have hdiv:((b0:Nat):Int) / 64=1:=by omega
 have hnn:(0:Int)<(n:Int):=by omega
 have hnz:((n:Int) == 0)=false:=by simp;omega
 have hnw:(n:Int)<2:=by omega
 clear hbq
 go_enter Tryd.func79,Tryd.ntmps79
 go_wp2
 go_loop [5,6] (fun k i=>∃ kk ii:Int,i=.int .u8 ii∧k=.int .i64 kk∧((kk=1∧ii=1)∨(kk=2∧ii=0))) (fun _ i=>(intOf i).toNat)
 case atStart=>exact ⟨1,1,rfl,rfl,by omega⟩
 case round =>
  obtain ⟨kk,ii,rfl,rfl,h⟩:=hrel
  rcases h with ⟨rfl,rfl⟩ | ⟨rfl,rfl⟩
  ·go_wp2
   go_round
   case rel=>exact ⟨2,0,rfl,rfl,by omega⟩
   case measure=>simp [intOf]
  ·go_wp2
   go_ret3
   exact ⟨rfl,rfl⟩
theorem rtake_q1 (b off n cap b0 B:Nat) (r:List Nat) (rest:List Value) (w:World) (hn:n≤cap) (hW:2≤n) (hr:r.length=1) (hb0:b0<256) (hbq:b0 / 64=1) (hbs:∀ c ∈ r,c<256) (hm:n≤140737488355328) (hB:B≤w.heap.size)
  (h0:w.cell? ⟨b,off,none⟩=some (.int .u8 (b0:Int))) (hc:∀ j,j<r.length→w.cell? ⟨b,off+(j+1),none⟩=some (.int .u8 ((r.getD j 0:Nat):Int)))
  (ht:Rd w B (some ⟨b,off+2,none⟩) (n - 2) rest) (h1:ones rest) :
  Calls Tryd.prog 79 #[.slice (some ⟨b,off,none⟩) n cap] w fun e w'=>∃ v',e=.returned (.tuple #[.int .i64 ((valF b0 r:Nat):Int),v',.int .i64 0])∧w'.ownsRow w.heap.size 5 1 v' (n - 2) rest∧Below w.heap.size w w':=by
 have HC:=Lib.hid hc
 have HB:=Lib.hid hbs
 have HV:=Lib.hid (valF_lt b0)
 have H1:=Lib.hid h1
 have hdiv:((b0:Nat):Int) / 64=1:=by omega
 have hnn:(0:Int)<(n:Int):=by omega
 have hnz:((n:Int) == 0)=false:=by simp;omega
 have hnw:(2:Int)≤(n:Int):=by omega
 obtain ⟨i0,hi,hz0,hz1,hz2⟩:=info_parts infoB
 have HI:=Lib.hid (And.intro hi (And.intro hz0 (And.intro hz1 hz2)))
 clear hi hz0 hz1 hz2 hc hbs hbq h1
 by_cases hcw:cap=2
 ·subst hcw
  obtain rfl:n=2:=by omega
  have HT:Hid (Rd w B (some ⟨b,off,none⟩) 0 rest):=⟨by have:=ht.1;simpa using this,fun h=>absurd h (by omega)⟩
  clear ht
  go_enter Tryd.func79,Tryd.ntmps79
  go_wp2
  go_loop [5,6] (fun k i=>∃ kk ii:Int,i=.int .u8 ii∧k=.int .i64 kk∧((kk=1∧ii=1)∨(kk=2∧ii=0))) (fun _ i=>(intOf i).toNat)
  case atStart=>exact ⟨1,1,rfl,rfl,by omega⟩
  case round =>
   obtain ⟨kk,ii,rfl,rfl,h⟩:=hrel
   rcases h with ⟨rfl,rfl⟩ | ⟨rfl,rfl⟩
   ·go_wp2
    go_round
    case rel=>exact ⟨2,0,rfl,rfl,by omega⟩
    case measure=>simp [intOf]
   ·go_wp2_with fail
    go_loop [7,8] (fun v i=>∃ j:Nat,j≤1∧i=.int .i64 ((j:Int)+1)∧v=.int .i64 ((valF b0 (r.take j):Nat):Int)) (fun _ i=>2 - (intOf i).toNat)
    case atStart=>exact ⟨0,by omega,by go_num,by simp [valF]⟩
    case round =>
     obtain ⟨j,hj,rfl,rfl⟩:=hrel
     by_cases hlt:j<1
     ·have hkr:j<r.length:=by omega
      obtain ⟨x,hx,hcell⟩:∃ x:Nat,Hid (r[j]=x)∧w.cell? ⟨b,off+(j+1),none⟩=some (.int .u8 (x:Int)):=⟨r[j],rfl,by rw [HC.out j hkr];simp [List.getD,hkr]⟩
      have hx256:x<256:=by have:=HB.out _ (List.getElem_mem hkr);rw [hx.out] at this;exact this
      obtain ⟨y,hy⟩:∃ y,Hid (valF b0 (r.take j)=y):=⟨_,rfl⟩
      have hyl:y<36028797018963968:=by
       have h1:=HV.out (r.take j) (fun c hc=>HB.out c (List.mem_of_mem_take hc))
       rw [hy.out] at h1
       have h2:(r.take j).length≤6:=by rw [List.length_take];omega
       have h3:256 ^ (r.take j).length≤256 ^ 6:=Nat.pow_le_pow_right (by decide) h2
       omega
      have hsn:Hid (valF b0 (r.take (j+1))=y * 256+x):=by
       have e:r.take (j+1)=r.take j ++ [r[j]]:=by rw [List.take_succ_eq_append_getElem hkr]
       show _=_
       rw [e,valF_snoc,hx.out,hy.out]
      have hj1:(j:Int)+1<2:=by omega
      rw [hy.out]
      go_wp2
      go_round
      case rel=>exact ⟨j+1,by omega,by go_num,by rw [hsn.out];exact congrArg (Value.int .i64) (by omega)⟩
      case measure=>simp [intOf];omega
     ·have e:r.take j=r:=List.take_of_length_le (by omega)
      rw [e]
      clear e
      obtain ⟨vv,hvv⟩:∃ vv,Hid (valF b0 r=vv):=⟨_,rfl⟩
      rw [hvv.out]
      go_wp2_with (at_builtin;refine wpList_app _ rfl _ _ 24 rfl w.heap.size 5 i0 (.int .u8 0) 1 1 Tryd.underlying24 HI.out.1 HI.out.2.1 HI.out.2.2.1 HI.out.2.2.2 rfl (by decide) (.slice (some ⟨w.heap.size,0,none⟩) 0 0) 0 [] rfl (own_new w #[] 5 1 0 w.heap.size w.heap.size rfl rfl (by unfold maxLen;omega) (Nat.le_refl _)) B (some ⟨b,off,none⟩) 0 0 rest rfl (by rw [Nat.mul_one];exact HT.out.below ((Below.refl _ _).alloc (Nat.le_refl _) _) hB) H1.out (by unfold maxLen;omega) (by omega) (by simp) ?_)
      intro v1 w1 hown1 hgrow1
      have HB1:Hid (Below w.heap.size w w1):=((Below.refl _ _).alloc (Nat.le_refl _) _).grown hgrow1 (by simp) (fun j hj=>by simp [Value.ownBlock] at hj;omega)
      try simp only [Nat.zero_add,List.nil_append] at hown1
      have HO:=Lib.hid hown1
      clear hown1 hgrow1
      go_wp2
      go_ret3
      exact ⟨_,by rw [hvv.out];rfl,HO.out,HB1.out⟩
 ·have HT:=Lib.hid ht
  clear ht
  go_enter Tryd.func79,Tryd.ntmps79
  go_wp2
  go_loop [5,6] (fun k i=>∃ kk ii:Int,i=.int .u8 ii∧k=.int .i64 kk∧((kk=1∧ii=1)∨(kk=2∧ii=0))) (fun _ i=>(intOf i).toNat)
  case atStart=>exact ⟨1,1,rfl,rfl,by omega⟩
  case round =>
   obtain ⟨kk,ii,rfl,rfl,h⟩:=hrel
   rcases h with ⟨rfl,rfl⟩ | ⟨rfl,rfl⟩
   ·go_wp2
    go_round
    case rel=>exact ⟨2,0,rfl,rfl,by omega⟩
    case measure=>simp [intOf]
   ·go_wp2_with fail
    go_loop [7,8] (fun v i=>∃ j:Nat,j≤1∧i=.int .i64 ((j:Int)+1)∧v=.int .i64 ((valF b0 (r.take j):Nat):Int)) (fun _ i=>2 - (intOf i).toNat)
    case atStart=>exact ⟨0,by omega,by go_num,by simp [valF]⟩
    case round =>
     obtain ⟨j,hj,rfl,rfl⟩:=hrel
     by_cases hlt:j<1
     ·have hkr:j<r.length:=by omega
      obtain ⟨x,hx,hcell⟩:∃ x:Nat,Hid (r[j]=x)∧w.cell? ⟨b,off+(j+1),none⟩=some (.int .u8 (x:Int)):=⟨r[j],rfl,by rw [HC.out j hkr];simp [List.getD,hkr]⟩
      have hx256:x<256:=by have:=HB.out _ (List.getElem_mem hkr);rw [hx.out] at this;exact this
      obtain ⟨y,hy⟩:∃ y,Hid (valF b0 (r.take j)=y):=⟨_,rfl⟩
      have hyl:y<36028797018963968:=by
       have h1:=HV.out (r.take j) (fun c hc=>HB.out c (List.mem_of_mem_take hc))
       rw [hy.out] at h1
       have h2:(r.take j).length≤6:=by rw [List.length_take];omega
       have h3:256 ^ (r.take j).length≤256 ^ 6:=Nat.pow_le_pow_right (by decide) h2
       omega
      have hsn:Hid (valF b0 (r.take (j+1))=y * 256+x):=by
       have e:r.take (j+1)=r.take j ++ [r[j]]:=by rw [List.take_succ_eq_append_getElem hkr]
       show _=_
       rw [e,valF_snoc,hx.out,hy.out]
      have hj1:(j:Int)+1<(n:Int):=by omega
      rw [hy.out]
      go_wp2
      go_round
      case rel=>exact ⟨j+1,by omega,by go_num,by rw [hsn.out];exact congrArg (Value.int .i64) (by omega)⟩
      case measure=>simp [intOf];omega
     ·have e:r.take j=r:=List.take_of_length_le (by omega)
      rw [e]
      clear e
      obtain ⟨vv,hvv⟩:∃ vv,Hid (valF b0 r=vv):=⟨_,rfl⟩
      rw [hvv.out]
      go_wp2_with (at_builtin;refine wpList_app _ rfl _ _ 24 rfl w.heap.size 5 i0 (.int .u8 0) 1 1 Tryd.underlying24 HI.out.1 HI.out.2.1 HI.out.2.2.1 HI.out.2.2.2 rfl (by decide) (.slice (some ⟨w.heap.size,0,none⟩) 0 0) 0 [] rfl (own_new w #[] 5 1 0 w.heap.size w.heap.size rfl rfl (by unfold maxLen;omega) (Nat.le_refl _)) B (some ⟨b,off+2,none⟩) (n - 2) (cap - 2) rest rfl (by rw [Nat.mul_one];exact HT.out.below ((Below.refl _ _).alloc (Nat.le_refl _) _) hB) H1.out (by unfold maxLen;omega) (by omega) (by simp) ?_)
      intro v1 w1 hown1 hgrow1
      have HB1:Hid (Below w.heap.size w w1):=((Below.refl _ _).alloc (Nat.le_refl _) _).grown hgrow1 (by simp) (fun j hj=>by simp [Value.ownBlock] at hj;omega)
      try simp only [Nat.zero_add,List.nil_append] at hown1
      have HO:=Lib.hid hown1
      clear hown1 hgrow1
      go_wp2
      go_ret3
      exact ⟨_,by rw [hvv.out];rfl,HO.out,HB1.out⟩
theorem rtake_less4 (b off n cap b0:Nat) (w:World) (hW:n<4) (hn0:0<n) (hbq:b0 / 64=2) (h0:w.cell? ⟨b,off,none⟩=some (.int .u8 (b0:Int))) :
  Calls Tryd.prog 79 #[.slice (some ⟨b,off,none⟩) n cap] w fun e w'=>e=.returned (.tuple #[.int .i64 0,.slice none 0 0,.int .i64 3])∧w=w':=by
 have hdiv:((b0:Nat):Int) / 64=2:=by omega
 have hnn:(0:Int)<(n:Int):=by omega
 have hnz:((n:Int) == 0)=false:=by simp;omega
 have hnw:(n:Int)<4:=by omega
 clear hbq
 go_enter Tryd.func79,Tryd.ntmps79
 go_wp2
 go_loop [5,6] (fun k i=>∃ kk ii:Int,i=.int .u8 ii∧k=.int .i64 kk∧((kk=1∧ii=2)∨(kk=2∧ii=1)∨(kk=4∧ii=0))) (fun _ i=>(intOf i).toNat)
 case atStart=>exact ⟨1,2,rfl,rfl,by omega⟩
 case round =>
  obtain ⟨kk,ii,rfl,rfl,h⟩:=hrel
  rcases h with ⟨rfl,rfl⟩ | ⟨rfl,rfl⟩ | ⟨rfl,rfl⟩
  ·go_wp2
   go_round
   case rel=>exact ⟨2,1,rfl,rfl,by omega⟩
   case measure=>simp [intOf]
  ·go_wp2
   go_round
   case rel=>exact ⟨4,0,rfl,rfl,by omega⟩
   case measure=>simp [intOf]
  ·go_wp2
   go_ret3
   exact ⟨rfl,rfl⟩
theorem rtake_q2 (b off n cap b0 B:Nat) (r:List Nat) (rest:List Value) (w:World) (hn:n≤cap) (hW:4≤n) (hr:r.length=3) (hb0:b0<256) (hbq:b0 / 64=2) (hbs:∀ c ∈ r,c<256) (hm:n≤140737488355328) (hB:B≤w.heap.size)
  (h0:w.cell? ⟨b,off,none⟩=some (.int .u8 (b0:Int))) (hc:∀ j,j<r.length→w.cell? ⟨b,off+(j+1),none⟩=some (.int .u8 ((r.getD j 0:Nat):Int)))
  (ht:Rd w B (some ⟨b,off+4,none⟩) (n - 4) rest) (h1:ones rest) :
  Calls Tryd.prog 79 #[.slice (some ⟨b,off,none⟩) n cap] w fun e w'=>∃ v',e=.returned (.tuple #[.int .i64 ((valF b0 r:Nat):Int),v',.int .i64 0])∧w'.ownsRow w.heap.size 5 1 v' (n - 4) rest∧Below w.heap.size w w':=by
 have HC:=Lib.hid hc
 have HB:=Lib.hid hbs
 have HV:=Lib.hid (valF_lt b0)
 have H1:=Lib.hid h1
 have hdiv:((b0:Nat):Int) / 64=2:=by omega
 have hnn:(0:Int)<(n:Int):=by omega
 have hnz:((n:Int) == 0)=false:=by simp;omega
 have hnw:(4:Int)≤(n:Int):=by omega
 obtain ⟨i0,hi,hz0,hz1,hz2⟩:=info_parts infoB
 have HI:=Lib.hid (And.intro hi (And.intro hz0 (And.intro hz1 hz2)))
 clear hi hz0 hz1 hz2 hc hbs hbq h1
 by_cases hcw:cap=4
 ·subst hcw
  obtain rfl:n=4:=by omega
  have HT:Hid (Rd w B (some ⟨b,off,none⟩) 0 rest):=⟨by have:=ht.1;simpa using this,fun h=>absurd h (by omega)⟩
  clear ht
  go_enter Tryd.func79,Tryd.ntmps79
  go_wp2
  go_loop [5,6] (fun k i=>∃ kk ii:Int,i=.int .u8 ii∧k=.int .i64 kk∧((kk=1∧ii=2)∨(kk=2∧ii=1)∨(kk=4∧ii=0))) (fun _ i=>(intOf i).toNat)
  case atStart=>exact ⟨1,2,rfl,rfl,by omega⟩
  case round =>
   obtain ⟨kk,ii,rfl,rfl,h⟩:=hrel
   rcases h with ⟨rfl,rfl⟩ | ⟨rfl,rfl⟩ | ⟨rfl,rfl⟩
   ·go_wp2
    go_round
    case rel=>exact ⟨2,1,rfl,rfl,by omega⟩
    case measure=>simp [intOf]
   ·go_wp2
    go_round
    case rel=>exact ⟨4,0,rfl,rfl,by omega⟩
    case measure=>simp [intOf]
   ·go_wp2_with fail
    go_loop [7,8] (fun v i=>∃ j:Nat,j≤3∧i=.int .i64 ((j:Int)+1)∧v=.int .i64 ((valF b0 (r.take j):Nat):Int)) (fun _ i=>4 - (intOf i).toNat)
    case atStart=>exact ⟨0,by omega,by go_num,by simp [valF]⟩
    case round =>
     obtain ⟨j,hj,rfl,rfl⟩:=hrel
     by_cases hlt:j<3
     ·have hkr:j<r.length:=by omega
      obtain ⟨x,hx,hcell⟩:∃ x:Nat,Hid (r[j]=x)∧w.cell? ⟨b,off+(j+1),none⟩=some (.int .u8 (x:Int)):=⟨r[j],rfl,by rw [HC.out j hkr];simp [List.getD,hkr]⟩
      have hx256:x<256:=by have:=HB.out _ (List.getElem_mem hkr);rw [hx.out] at this;exact this
      obtain ⟨y,hy⟩:∃ y,Hid (valF b0 (r.take j)=y):=⟨_,rfl⟩
      have hyl:y<36028797018963968:=by
       have h1:=HV.out (r.take j) (fun c hc=>HB.out c (List.mem_of_mem_take hc))
       rw [hy.out] at h1
       have h2:(r.take j).length≤6:=by rw [List.length_take];omega
       have h3:256 ^ (r.take j).length≤256 ^ 6:=Nat.pow_le_pow_right (by decide) h2
       omega
      have hsn:Hid (valF b0 (r.take (j+1))=y * 256+x):=by
       have e:r.take (j+1)=r.take j ++ [r[j]]:=by rw [List.take_succ_eq_append_getElem hkr]
       show _=_
       rw [e,valF_snoc,hx.out,hy.out]
      have hj1:(j:Int)+1<4:=by omega
      rw [hy.out]
      go_wp2
      go_round
      case rel=>exact ⟨j+1,by omega,by go_num,by rw [hsn.out];exact congrArg (Value.int .i64) (by omega)⟩
      case measure=>simp [intOf];omega
     ·have e:r.take j=r:=List.take_of_length_le (by omega)
      rw [e]
      clear e
      obtain ⟨vv,hvv⟩:∃ vv,Hid (valF b0 r=vv):=⟨_,rfl⟩
      rw [hvv.out]
      go_wp2_with (at_builtin;refine wpList_app _ rfl _ _ 24 rfl w.heap.size 5 i0 (.int .u8 0) 1 1 Tryd.underlying24 HI.out.1 HI.out.2.1 HI.out.2.2.1 HI.out.2.2.2 rfl (by decide) (.slice (some ⟨w.heap.size,0,none⟩) 0 0) 0 [] rfl (own_new w #[] 5 1 0 w.heap.size w.heap.size rfl rfl (by unfold maxLen;omega) (Nat.le_refl _)) B (some ⟨b,off,none⟩) 0 0 rest rfl (by rw [Nat.mul_one];exact HT.out.below ((Below.refl _ _).alloc (Nat.le_refl _) _) hB) H1.out (by unfold maxLen;omega) (by omega) (by simp) ?_)
      intro v1 w1 hown1 hgrow1
      have HB1:Hid (Below w.heap.size w w1):=((Below.refl _ _).alloc (Nat.le_refl _) _).grown hgrow1 (by simp) (fun j hj=>by simp [Value.ownBlock] at hj;omega)
      try simp only [Nat.zero_add,List.nil_append] at hown1
      have HO:=Lib.hid hown1
      clear hown1 hgrow1
      go_wp2
      go_ret3
      exact ⟨_,by rw [hvv.out];rfl,HO.out,HB1.out⟩
 ·have HT:=Lib.hid ht
  clear ht
  go_enter Tryd.func79,Tryd.ntmps79
  go_wp2
  go_loop [5,6] (fun k i=>∃ kk ii:Int,i=.int .u8 ii∧k=.int .i64 kk∧((kk=1∧ii=2)∨(kk=2∧ii=1)∨(kk=4∧ii=0))) (fun _ i=>(intOf i).toNat)
  case atStart=>exact ⟨1,2,rfl,rfl,by omega⟩
  case round =>
   obtain ⟨kk,ii,rfl,rfl,h⟩:=hrel
   rcases h with ⟨rfl,rfl⟩ | ⟨rfl,rfl⟩ | ⟨rfl,rfl⟩
   ·go_wp2
    go_round
    case rel=>exact ⟨2,1,rfl,rfl,by omega⟩
    case measure=>simp [intOf]
   ·go_wp2
    go_round
    case rel=>exact ⟨4,0,rfl,rfl,by omega⟩
    case measure=>simp [intOf]
   ·go_wp2_with fail
    go_loop [7,8] (fun v i=>∃ j:Nat,j≤3∧i=.int .i64 ((j:Int)+1)∧v=.int .i64 ((valF b0 (r.take j):Nat):Int)) (fun _ i=>4 - (intOf i).toNat)
    case atStart=>exact ⟨0,by omega,by go_num,by simp [valF]⟩
    case round =>
     obtain ⟨j,hj,rfl,rfl⟩:=hrel
     by_cases hlt:j<3
     ·have hkr:j<r.length:=by omega
      obtain ⟨x,hx,hcell⟩:∃ x:Nat,Hid (r[j]=x)∧w.cell? ⟨b,off+(j+1),none⟩=some (.int .u8 (x:Int)):=⟨r[j],rfl,by rw [HC.out j hkr];simp [List.getD,hkr]⟩
      have hx256:x<256:=by have:=HB.out _ (List.getElem_mem hkr);rw [hx.out] at this;exact this
      obtain ⟨y,hy⟩:∃ y,Hid (valF b0 (r.take j)=y):=⟨_,rfl⟩
      have hyl:y<36028797018963968:=by
       have h1:=HV.out (r.take j) (fun c hc=>HB.out c (List.mem_of_mem_take hc))
       rw [hy.out] at h1
       have h2:(r.take j).length≤6:=by rw [List.length_take];omega
       have h3:256 ^ (r.take j).length≤256 ^ 6:=Nat.pow_le_pow_right (by decide) h2
       omega
      have hsn:Hid (valF b0 (r.take (j+1))=y * 256+x):=by
       have e:r.take (j+1)=r.take j ++ [r[j]]:=by rw [List.take_succ_eq_append_getElem hkr]
       show _=_
       rw [e,valF_snoc,hx.out,hy.out]
      have hj1:(j:Int)+1<(n:Int):=by omega
      rw [hy.out]
      go_wp2
      go_round
      case rel=>exact ⟨j+1,by omega,by go_num,by rw [hsn.out];exact congrArg (Value.int .i64) (by omega)⟩
      case measure=>simp [intOf];omega
     ·have e:r.take j=r:=List.take_of_length_le (by omega)
      rw [e]
      clear e
      obtain ⟨vv,hvv⟩:∃ vv,Hid (valF b0 r=vv):=⟨_,rfl⟩
      rw [hvv.out]
      go_wp2_with (at_builtin;refine wpList_app _ rfl _ _ 24 rfl w.heap.size 5 i0 (.int .u8 0) 1 1 Tryd.underlying24 HI.out.1 HI.out.2.1 HI.out.2.2.1 HI.out.2.2.2 rfl (by decide) (.slice (some ⟨w.heap.size,0,none⟩) 0 0) 0 [] rfl (own_new w #[] 5 1 0 w.heap.size w.heap.size rfl rfl (by unfold maxLen;omega) (Nat.le_refl _)) B (some ⟨b,off+4,none⟩) (n - 4) (cap - 4) rest rfl (by rw [Nat.mul_one];exact HT.out.below ((Below.refl _ _).alloc (Nat.le_refl _) _) hB) H1.out (by unfold maxLen;omega) (by omega) (by simp) ?_)
      intro v1 w1 hown1 hgrow1
      have HB1:Hid (Below w.heap.size w w1):=((Below.refl _ _).alloc (Nat.le_refl _) _).grown hgrow1 (by simp) (fun j hj=>by simp [Value.ownBlock] at hj;omega)
      try simp only [Nat.zero_add,List.nil_append] at hown1
      have HO:=Lib.hid hown1
      clear hown1 hgrow1
      go_wp2
      go_ret3
      exact ⟨_,by rw [hvv.out];rfl,HO.out,HB1.out⟩
theorem rtake_less8 (b off n cap b0:Nat) (w:World) (hW:n<8) (hn0:0<n) (hbq:b0 / 64=3) (h0:w.cell? ⟨b,off,none⟩=some (.int .u8 (b0:Int))) :
  Calls Tryd.prog 79 #[.slice (some ⟨b,off,none⟩) n cap] w fun e w'=>e=.returned (.tuple #[.int .i64 0,.slice none 0 0,.int .i64 3])∧w=w':=by
 have hdiv:((b0:Nat):Int) / 64=3:=by omega
 have hnn:(0:Int)<(n:Int):=by omega
 have hnz:((n:Int) == 0)=false:=by simp;omega
 have hnw:(n:Int)<8:=by omega
 clear hbq
 go_enter Tryd.func79,Tryd.ntmps79
 go_wp2
 go_loop [5,6] (fun k i=>∃ kk ii:Int,i=.int .u8 ii∧k=.int .i64 kk∧((kk=1∧ii=3)∨(kk=2∧ii=2)∨(kk=4∧ii=1)∨(kk=8∧ii=0))) (fun _ i=>(intOf i).toNat)
 case atStart=>exact ⟨1,3,rfl,rfl,by omega⟩
 case round =>
  obtain ⟨kk,ii,rfl,rfl,h⟩:=hrel
  rcases h with ⟨rfl,rfl⟩ | ⟨rfl,rfl⟩ | ⟨rfl,rfl⟩ | ⟨rfl,rfl⟩
  ·go_wp2
   go_round
   case rel=>exact ⟨2,2,rfl,rfl,by omega⟩
   case measure=>simp [intOf]
  ·go_wp2
   go_round
   case rel=>exact ⟨4,1,rfl,rfl,by omega⟩
   case measure=>simp [intOf]
  ·go_wp2
   go_round
   case rel=>exact ⟨8,0,rfl,rfl,by omega⟩
   case measure=>simp [intOf]
  ·go_wp2
   go_ret3
   exact ⟨rfl,rfl⟩
theorem rtake_q3 (b off n cap b0 B:Nat) (r:List Nat) (rest:List Value) (w:World) (hn:n≤cap) (hW:8≤n) (hr:r.length=7) (hb0:b0<256) (hbq:b0 / 64=3) (hbs:∀ c ∈ r,c<256) (hm:n≤140737488355328) (hB:B≤w.heap.size)
  (h0:w.cell? ⟨b,off,none⟩=some (.int .u8 (b0:Int))) (hc:∀ j,j<r.length→w.cell? ⟨b,off+(j+1),none⟩=some (.int .u8 ((r.getD j 0:Nat):Int)))
  (ht:Rd w B (some ⟨b,off+8,none⟩) (n - 8) rest) (h1:ones rest) :
  Calls Tryd.prog 79 #[.slice (some ⟨b,off,none⟩) n cap] w fun e w'=>∃ v',e=.returned (.tuple #[.int .i64 ((valF b0 r:Nat):Int),v',.int .i64 0])∧w'.ownsRow w.heap.size 5 1 v' (n - 8) rest∧Below w.heap.size w w':=by
 have HC:=Lib.hid hc
 have HB:=Lib.hid hbs
 have HV:=Lib.hid (valF_lt b0)
 have H1:=Lib.hid h1
 have hdiv:((b0:Nat):Int) / 64=3:=by omega
 have hnn:(0:Int)<(n:Int):=by omega
 have hnz:((n:Int) == 0)=false:=by simp;omega
 have hnw:(8:Int)≤(n:Int):=by omega
 obtain ⟨i0,hi,hz0,hz1,hz2⟩:=info_parts infoB
 have HI:=Lib.hid (And.intro hi (And.intro hz0 (And.intro hz1 hz2)))
 clear hi hz0 hz1 hz2 hc hbs hbq h1
 by_cases hcw:cap=8
 ·subst hcw
  obtain rfl:n=8:=by omega
  have HT:Hid (Rd w B (some ⟨b,off,none⟩) 0 rest):=⟨by have:=ht.1;simpa using this,fun h=>absurd h (by omega)⟩
  clear ht
  go_enter Tryd.func79,Tryd.ntmps79
  go_wp2
  go_loop [5,6] (fun k i=>∃ kk ii:Int,i=.int .u8 ii∧k=.int .i64 kk∧((kk=1∧ii=3)∨(kk=2∧ii=2)∨(kk=4∧ii=1)∨(kk=8∧ii=0))) (fun _ i=>(intOf i).toNat)
  case atStart=>exact ⟨1,3,rfl,rfl,by omega⟩
  case round =>
   obtain ⟨kk,ii,rfl,rfl,h⟩:=hrel
   rcases h with ⟨rfl,rfl⟩ | ⟨rfl,rfl⟩ | ⟨rfl,rfl⟩ | ⟨rfl,rfl⟩
   ·go_wp2
    go_round
    case rel=>exact ⟨2,2,rfl,rfl,by omega⟩
    case measure=>simp [intOf]
   ·go_wp2
    go_round
    case rel=>exact ⟨4,1,rfl,rfl,by omega⟩
    case measure=>simp [intOf]
   ·go_wp2
    go_round
    case rel=>exact ⟨8,0,rfl,rfl,by omega⟩
    case measure=>simp [intOf]
   ·go_wp2_with fail
    go_loop [7,8] (fun v i=>∃ j:Nat,j≤7∧i=.int .i64 ((j:Int)+1)∧v=.int .i64 ((valF b0 (r.take j):Nat):Int)) (fun _ i=>8 - (intOf i).toNat)
    case atStart=>exact ⟨0,by omega,by go_num,by simp [valF]⟩
    case round =>
     obtain ⟨j,hj,rfl,rfl⟩:=hrel
     by_cases hlt:j<7
     ·have hkr:j<r.length:=by omega
      obtain ⟨x,hx,hcell⟩:∃ x:Nat,Hid (r[j]=x)∧w.cell? ⟨b,off+(j+1),none⟩=some (.int .u8 (x:Int)):=⟨r[j],rfl,by rw [HC.out j hkr];simp [List.getD,hkr]⟩
      have hx256:x<256:=by have:=HB.out _ (List.getElem_mem hkr);rw [hx.out] at this;exact this
      obtain ⟨y,hy⟩:∃ y,Hid (valF b0 (r.take j)=y):=⟨_,rfl⟩
      have hyl:y<36028797018963968:=by
       have h1:=HV.out (r.take j) (fun c hc=>HB.out c (List.mem_of_mem_take hc))
       rw [hy.out] at h1
       have h2:(r.take j).length≤6:=by rw [List.length_take];omega
       have h3:256 ^ (r.take j).length≤256 ^ 6:=Nat.pow_le_pow_right (by decide) h2
       omega
      have hsn:Hid (valF b0 (r.take (j+1))=y * 256+x):=by
       have e:r.take (j+1)=r.take j ++ [r[j]]:=by rw [List.take_succ_eq_append_getElem hkr]
       show _=_
       rw [e,valF_snoc,hx.out,hy.out]
      have hj1:(j:Int)+1<8:=by omega
      rw [hy.out]
      go_wp2
      go_round
      case rel=>exact ⟨j+1,by omega,by go_num,by rw [hsn.out];exact congrArg (Value.int .i64) (by omega)⟩
      case measure=>simp [intOf];omega
     ·have e:r.take j=r:=List.take_of_length_le (by omega)
      rw [e]
      clear e
      obtain ⟨vv,hvv⟩:∃ vv,Hid (valF b0 r=vv):=⟨_,rfl⟩
      rw [hvv.out]
      go_wp2_with (at_builtin;refine wpList_app _ rfl _ _ 24 rfl w.heap.size 5 i0 (.int .u8 0) 1 1 Tryd.underlying24 HI.out.1 HI.out.2.1 HI.out.2.2.1 HI.out.2.2.2 rfl (by decide) (.slice (some ⟨w.heap.size,0,none⟩) 0 0) 0 [] rfl (own_new w #[] 5 1 0 w.heap.size w.heap.size rfl rfl (by unfold maxLen;omega) (Nat.le_refl _)) B (some ⟨b,off,none⟩) 0 0 rest rfl (by rw [Nat.mul_one];exact HT.out.below ((Below.refl _ _).alloc (Nat.le_refl _) _) hB) H1.out (by unfold maxLen;omega) (by omega) (by simp) ?_)
      intro v1 w1 hown1 hgrow1
      have HB1:Hid (Below w.heap.size w w1):=((Below.refl _ _).alloc (Nat.le_refl _) _).grown hgrow1 (by simp) (fun j hj=>by simp [Value.ownBlock] at hj;omega)
      try simp only [Nat.zero_add,List.nil_append] at hown1
      have HO:=Lib.hid hown1
      clear hown1 hgrow1
      go_wp2
      go_ret3
      exact ⟨_,by rw [hvv.out];rfl,HO.out,HB1.out⟩
 ·have HT:=Lib.hid ht
  clear ht
  go_enter Tryd.func79,Tryd.ntmps79
  go_wp2
  go_loop [5,6] (fun k i=>∃ kk ii:Int,i=.int .u8 ii∧k=.int .i64 kk∧((kk=1∧ii=3)∨(kk=2∧ii=2)∨(kk=4∧ii=1)∨(kk=8∧ii=0))) (fun _ i=>(intOf i).toNat)
  case atStart=>exact ⟨1,3,rfl,rfl,by omega⟩
  case round =>
   obtain ⟨kk,ii,rfl,rfl,h⟩:=hrel
   rcases h with ⟨rfl,rfl⟩ | ⟨rfl,rfl⟩ | ⟨rfl,rfl⟩ | ⟨rfl,rfl⟩
   ·go_wp2
    go_round
    case rel=>exact ⟨2,2,rfl,rfl,by omega⟩
    case measure=>simp [intOf]
   ·go_wp2
    go_round
    case rel=>exact ⟨4,1,rfl,rfl,by omega⟩
    case measure=>simp [intOf]
   ·go_wp2
    go_round
    case rel=>exact ⟨8,0,rfl,rfl,by omega⟩
    case measure=>simp [intOf]
   ·go_wp2_with fail
    go_loop [7,8] (fun v i=>∃ j:Nat,j≤7∧i=.int .i64 ((j:Int)+1)∧v=.int .i64 ((valF b0 (r.take j):Nat):Int)) (fun _ i=>8 - (intOf i).toNat)
    case atStart=>exact ⟨0,by omega,by go_num,by simp [valF]⟩
    case round =>
     obtain ⟨j,hj,rfl,rfl⟩:=hrel
     by_cases hlt:j<7
     ·have hkr:j<r.length:=by omega
      obtain ⟨x,hx,hcell⟩:∃ x:Nat,Hid (r[j]=x)∧w.cell? ⟨b,off+(j+1),none⟩=some (.int .u8 (x:Int)):=⟨r[j],rfl,by rw [HC.out j hkr];simp [List.getD,hkr]⟩
      have hx256:x<256:=by have:=HB.out _ (List.getElem_mem hkr);rw [hx.out] at this;exact this
      obtain ⟨y,hy⟩:∃ y,Hid (valF b0 (r.take j)=y):=⟨_,rfl⟩
      have hyl:y<36028797018963968:=by
       have h1:=HV.out (r.take j) (fun c hc=>HB.out c (List.mem_of_mem_take hc))
       rw [hy.out] at h1
       have h2:(r.take j).length≤6:=by rw [List.length_take];omega
       have h3:256 ^ (r.take j).length≤256 ^ 6:=Nat.pow_le_pow_right (by decide) h2
       omega
      have hsn:Hid (valF b0 (r.take (j+1))=y * 256+x):=by
       have e:r.take (j+1)=r.take j ++ [r[j]]:=by rw [List.take_succ_eq_append_getElem hkr]
       show _=_
       rw [e,valF_snoc,hx.out,hy.out]
      have hj1:(j:Int)+1<(n:Int):=by omega
      rw [hy.out]
      go_wp2
      go_round
      case rel=>exact ⟨j+1,by omega,by go_num,by rw [hsn.out];exact congrArg (Value.int .i64) (by omega)⟩
      case measure=>simp [intOf];omega
     ·have e:r.take j=r:=List.take_of_length_le (by omega)
      rw [e]
      clear e
      obtain ⟨vv,hvv⟩:∃ vv,Hid (valF b0 r=vv):=⟨_,rfl⟩
      rw [hvv.out]
      go_wp2_with (at_builtin;refine wpList_app _ rfl _ _ 24 rfl w.heap.size 5 i0 (.int .u8 0) 1 1 Tryd.underlying24 HI.out.1 HI.out.2.1 HI.out.2.2.1 HI.out.2.2.2 rfl (by decide) (.slice (some ⟨w.heap.size,0,none⟩) 0 0) 0 [] rfl (own_new w #[] 5 1 0 w.heap.size w.heap.size rfl rfl (by unfold maxLen;omega) (Nat.le_refl _)) B (some ⟨b,off+8,none⟩) (n - 8) (cap - 8) rest rfl (by rw [Nat.mul_one];exact HT.out.below ((Below.refl _ _).alloc (Nat.le_refl _) _) hB) H1.out (by unfold maxLen;omega) (by omega) (by simp) ?_)
      intro v1 w1 hown1 hgrow1
      have HB1:Hid (Below w.heap.size w w1):=((Below.refl _ _).alloc (Nat.le_refl _) _).grown hgrow1 (by simp) (fun j hj=>by simp [Value.ownBlock] at hj;omega)
      try simp only [Nat.zero_add,List.nil_append] at hown1
      have HO:=Lib.hid hown1
      clear hown1 hgrow1
      go_wp2
      go_ret3
      exact ⟨_,by rw [hvv.out];rfl,HO.out,HB1.out⟩
/-- What a Take tells. -/
def TakeP (bs:List Nat) (w:World) (e:Ending) (w':World):Prop :=
 (dec bs=none∧e=.returned (.tuple #[.int .i64 0,.slice none 0 0,.int .i64 3])∧Below w.heap.size w w') ∨
 ∃ v W v',dec bs=some (v,W)∧e=.returned (.tuple #[.int .i64 ((v:Nat):Int),v',.int .i64 0])∧w'.ownsRow w.heap.size 5 1 v' (bs.length - W) (bv (bs.drop W))∧Below w.heap.size w w'
theorem rtake_any (bs:List Nat) (B:Nat) (A:Option Addr) (cap:Nat) (w:World) (hx:Rd w B A bs.length (bv bs)) (hB:B≤w.heap.size) (hb:∀ c ∈ bs,c<256) (hn:bs.length≤cap) (hm:bs.length≤140737488355328) :
  Calls Tryd.prog 79 #[.slice A bs.length cap] w fun e w'=>TakeP bs w e w':=by
 have none_of:dec bs=none→∀ e w',(e=Ending.returned (.tuple #[.int .i64 0,.slice none 0 0,.int .i64 3])∧w=w')→TakeP bs w e w':=fun hd e w' h=>by
  obtain ⟨rfl,rfl⟩:=h
  exact .inl ⟨hd,rfl,Below.refl _ _⟩
 match bs,hx,hb,hn,hm,none_of with
 | [],hx,hb,hn,hm,none_of=>exact (rtake_nil A cap w).mono fun e w' h=>none_of rfl e w' h
 | b0 :: r,hx,hb,hn,hm,none_of =>
   obtain ⟨b,off,rfl,hlt,hc⟩:=hx.2 (by simp)
   have hb0:=hb b0 (by simp)
   have h0:w.cell? ⟨b,off,none⟩=some (.int .u8 (b0:Int)):=hc 0 _ rfl
   have hc':∀ j,j<(r.take (lenF b0 - 1)).length→w.cell? ⟨b,off+(j+1),none⟩=some (.int .u8 (((r.take (lenF b0 - 1)).getD j 0:Nat):Int)):=fun j hj=>by
    have hj2:j<r.length:=by rw [List.length_take] at hj;omega
    have:=hc (j+1) (.int .u8 ((r[j]:Nat):Int)) (by simp [bv,hj2])
    rw [this]
    simp only [List.getD,List.getElem?_take]
    rw [List.length_take] at hj
    rw [if_pos (by omega),List.getElem?_eq_getElem hj2]
    rfl
   have hbr:∀ c ∈ r.take (lenF b0 - 1),c<256:=fun c hc=>hb c (by simp [List.mem_of_mem_take hc])
   by_cases hl:r.length+1<lenF b0
   ·have hd:dec (b0 :: r)=none:=by simp only [dec];rw [if_pos hl]
    rcases lenF_cases b0 hb0 with ⟨hq,hw⟩ | ⟨hq,hw⟩ | ⟨hq,hw⟩ | ⟨hq,hw⟩
    ·omega
    ·exact (rtake_less2 b off _ cap b0 w (by simp;omega) (by simp) hq h0).mono fun e w' h=>none_of hd e w' h
    ·exact (rtake_less4 b off _ cap b0 w (by simp;omega) (by simp) hq h0).mono fun e w' h=>none_of hd e w' h
    ·exact (rtake_less8 b off _ cap b0 w (by simp;omega) (by simp) hq h0).mono fun e w' h=>none_of hd e w' h
   ·have hd:dec (b0 :: r)=some (valF b0 (r.take (lenF b0 - 1)),lenF b0):=by simp only [dec];rw [if_neg hl]
    have hlen:(r.take (lenF b0 - 1)).length=lenF b0 - 1:=by rw [List.length_take];omega
    have htl:∀ k,k≤(b0 :: r).length→Rd w B (some ⟨b,off+k,none⟩) ((b0 :: r).length - k) (bv ((b0 :: r).drop k)):=fun k hk=>by
     have:=hx.tail' k hk
     rwa [bv_drop] at this
    have fin:∀ e w',(∃ v',e=Ending.returned (.tuple #[.int .i64 ((valF b0 (r.take (lenF b0 - 1)):Nat):Int),v',.int .i64 0])∧w'.ownsRow w.heap.size 5 1 v' ((b0 :: r).length - lenF b0) (bv ((b0 :: r).drop (lenF b0)))∧Below w.heap.size w w')→TakeP (b0 :: r) w e w':=fun e w' h=>by
     obtain ⟨v',rfl,h1,h2⟩:=h
     exact .inr ⟨_,_,v',hd,rfl,h1,h2⟩
    have hle:lenF b0≤(b0 :: r).length:=by simp;omega
    rcases lenF_cases b0 hb0 with ⟨hq,hw⟩ | ⟨hq,hw⟩ | ⟨hq,hw⟩ | ⟨hq,hw⟩
    ·rw [hw] at hc' hbr hlen fin hle
     exact (rtake_q0 b off _ cap b0 B _ _ w hn hle hlen hb0 hq hbr hm hB h0 hc' (htl 1 hle) (ones_bv _)).mono fin
    ·rw [hw] at hc' hbr hlen fin hle
     exact (rtake_q1 b off _ cap b0 B _ _ w hn hle hlen hb0 hq hbr hm hB h0 hc' (htl 2 hle) (ones_bv _)).mono fin
    ·rw [hw] at hc' hbr hlen fin hle
     exact (rtake_q2 b off _ cap b0 B _ _ w hn hle hlen hb0 hq hbr hm hB h0 hc' (htl 4 hle) (ones_bv _)).mono fin
    ·rw [hw] at hc' hbr hlen fin hle
     exact (rtake_q3 b off _ cap b0 B _ _ w hn hle hlen hb0 hq hbr hm hB h0 hc' (htl 8 hle) (ones_bv _)).mono fin
end Go.Proofs.YtccljifichaieaaDoor.Rv
