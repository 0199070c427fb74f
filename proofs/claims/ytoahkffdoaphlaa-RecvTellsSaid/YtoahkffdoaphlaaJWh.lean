/- Joined texts. Conditions: as each theorem lists them. -/
import Derived.Test.YtoahkffdoaphlaaJWg
set_option linter.unusedSimpArgs false
set_option linter.unusedVariables false
set_option maxRecDepth 100000
set_option maxHeartbeats 80000000
namespace Go.Proofs.Ytoahkffdoaphlaa.Se
open Go Go.RowKit Go.Proofs.Ytoahkffdoaphlaa Go.Proofs.Ytoahkffdoaphlaa.Sp
section
variable {w w' W:World} {p g:Nat} {F F' F2:List Nat} {v3 v4 v5:Value} {s:St}
theorem row_then {base e n:Nat} {v:Value} {xs:List Value} (ho:w'.ownsRow base e 1 v n xs) (hf:∀ k ∈ fp v,k ∉ F') (hk:Kept F' w' W) (hn:∀ k ∈ F2,k ∈ F'∨w'.heap.size≤k):W.ownsRow base e 1 v n xs∧∀ k ∈ fp v,k ∉ F2 :=
 ⟨own_kept ho hk hf,fun k hk' hm=>(hn k hm).elim (hf k hk') (fun h=>by have:=(ho.lt k (fp_own.1 hk')).2;omega)⟩
theorem nine_heap {T:TypeId} {a0 a1 a2 a3 a4 a5 a6 a7 a8:Value} (h:w.heap[g]?=some (.cells #[a0,a1,a2,a3,a4,a5,a6,a7,a8] T (0,0))) (u0 u1 u2 u3 u4 u5 u6 u7 u8:Value) :
  (((((((((w.setCell ⟨g,0,none⟩ u0).setCell ⟨g,1,none⟩ u1).setCell ⟨g,2,none⟩ u2).setCell ⟨g,3,none⟩ u3).setCell ⟨g,4,none⟩ u4).setCell ⟨g,5,none⟩ u5).setCell ⟨g,6,none⟩ u6).setCell ⟨g,7,none⟩ u7).setCell ⟨g,8,none⟩ u8).heap[g]?=some (.cells #[u0,u1,u2,u3,u4,u5,u6,u7,u8] T (0,0)):=by
 have h0:(w.setCell ⟨g,0,none⟩ u0).heap[g]?=some (.cells #[u0,a1,a2,a3,a4,a5,a6,a7,a8] T (0,0)):=set_slot h 0 u0
 have h1:((w.setCell ⟨g,0,none⟩ u0).setCell ⟨g,1,none⟩ u1).heap[g]?=some (.cells #[u0,u1,a2,a3,a4,a5,a6,a7,a8] T (0,0)):=set_slot h0 1 u1
 have h2:(((w.setCell ⟨g,0,none⟩ u0).setCell ⟨g,1,none⟩ u1).setCell ⟨g,2,none⟩ u2).heap[g]?=some (.cells #[u0,u1,u2,a3,a4,a5,a6,a7,a8] T (0,0)):=set_slot h1 2 u2
 have h3:((((w.setCell ⟨g,0,none⟩ u0).setCell ⟨g,1,none⟩ u1).setCell ⟨g,2,none⟩ u2).setCell ⟨g,3,none⟩ u3).heap[g]?=some (.cells #[u0,u1,u2,u3,a4,a5,a6,a7,a8] T (0,0)):=set_slot h2 3 u3
 have h4:(((((w.setCell ⟨g,0,none⟩ u0).setCell ⟨g,1,none⟩ u1).setCell ⟨g,2,none⟩ u2).setCell ⟨g,3,none⟩ u3).setCell ⟨g,4,none⟩ u4).heap[g]?=some (.cells #[u0,u1,u2,u3,u4,a5,a6,a7,a8] T (0,0)):=set_slot h3 4 u4
 have h5:((((((w.setCell ⟨g,0,none⟩ u0).setCell ⟨g,1,none⟩ u1).setCell ⟨g,2,none⟩ u2).setCell ⟨g,3,none⟩ u3).setCell ⟨g,4,none⟩ u4).setCell ⟨g,5,none⟩ u5).heap[g]?=some (.cells #[u0,u1,u2,u3,u4,u5,a6,a7,a8] T (0,0)):=set_slot h4 5 u5
 have h6:(((((((w.setCell ⟨g,0,none⟩ u0).setCell ⟨g,1,none⟩ u1).setCell ⟨g,2,none⟩ u2).setCell ⟨g,3,none⟩ u3).setCell ⟨g,4,none⟩ u4).setCell ⟨g,5,none⟩ u5).setCell ⟨g,6,none⟩ u6).heap[g]?=some (.cells #[u0,u1,u2,u3,u4,u5,u6,a7,a8] T (0,0)):=set_slot h5 6 u6
 have h7:((((((((w.setCell ⟨g,0,none⟩ u0).setCell ⟨g,1,none⟩ u1).setCell ⟨g,2,none⟩ u2).setCell ⟨g,3,none⟩ u3).setCell ⟨g,4,none⟩ u4).setCell ⟨g,5,none⟩ u5).setCell ⟨g,6,none⟩ u6).setCell ⟨g,7,none⟩ u7).heap[g]?=some (.cells #[u0,u1,u2,u3,u4,u5,u6,u7,a8] T (0,0)):=set_slot h6 7 u7
 have h8:(((((((((w.setCell ⟨g,0,none⟩ u0).setCell ⟨g,1,none⟩ u1).setCell ⟨g,2,none⟩ u2).setCell ⟨g,3,none⟩ u3).setCell ⟨g,4,none⟩ u4).setCell ⟨g,5,none⟩ u5).setCell ⟨g,6,none⟩ u6).setCell ⟨g,7,none⟩ u7).setCell ⟨g,8,none⟩ u8).heap[g]?=some (.cells #[u0,u1,u2,u3,u4,u5,u6,u7,u8] T (0,0)):=set_slot h7 8 u8
 exact h8
theorem nine_own {base e n:Nat} {v:Value} {xs:List Value} (ho:w.ownsRow base e 1 v n xs) (hf:∀ k ∈ fp v,k≠g) (u0 u1 u2 u3 u4 u5 u6 u7 u8:Value) :
  (((((((((w.setCell ⟨g,0,none⟩ u0).setCell ⟨g,1,none⟩ u1).setCell ⟨g,2,none⟩ u2).setCell ⟨g,3,none⟩ u3).setCell ⟨g,4,none⟩ u4).setCell ⟨g,5,none⟩ u5).setCell ⟨g,6,none⟩ u6).setCell ⟨g,7,none⟩ u7).setCell ⟨g,8,none⟩ u8).ownsRow base e 1 v n xs:=by
 have one:∀ (W:World) j u,W.ownsRow base e 1 v n xs→(W.setCell ⟨g,j,none⟩ u).ownsRow base e 1 v n xs:=fun W j u h=>own_kept h (kept_put W (F:=[g]) (by simp) j u) fun k hk hm=>hf k hk (by simpa using hm)
 exact one _ _ _ (one _ _ _ (one _ _ _ (one _ _ _ (one _ _ _ (one _ _ _ (one _ _ _ (one _ _ _ (one _ _ _ ho))))))))
/-- Three results: nine cells of a block, two slots. -/
theorem ret_three {P:Program} {fn:Func} {pt u v:Tmp} {ty:TypeId} {Post:Ending→World→Prop} (h:fn.results=#[.cell pt ty,.tmp u,.tmp v]) (tmps:Array Value) (w:World) (g:Nat) (t:TypeId) (c0 c1 c2 c3 c4 c5 c6 c7 c8 x y:Value) (d:TypeDesc)
  (hp:tmps.getD pt undef=.pointer (some ⟨g,0,none⟩)) (hx:tmps.getD u undef=x) (hy:tmps.getD v undef=y) (hg:w.heap[g]?=some (.cells #[c0,c1,c2,c3,c4,c5,c6,c7,c8] t (0,0)))
  (hu:P.underlying ty=some d) (hd:(match d with | .struct _ | .array _ _=>true | _=>false)=true) (hi:(P.info? ty).map (·.size)=some 9) (hP:Post (.returned (.tuple #[.agg #[c0,c1,c2,c3,c4,c5,c6,c7,c8],x,y])) w) :
  bodyPost P fn Post .ret { tmps:=tmps,defers:=[] } w :=
 bodyPost_ret (results_row_tmp2 h tmps w g t _ (0,0) d hp hg hu hd hi) rfl (by rw [hx,hy];exact hP)
/-- What Next leaves: no frame, and nothing has changed; or a frame, its bytes in new memory of its own. -/
def NextP (s:St) (room most:Int) (w:World) (p:Nat) (F:List Nat) (e:Ending) (w':World):Prop :=
 (nextS s room most=none∧e=.returned (.tuple #[.agg #[.int .i64 0,.int .i64 0,.int .i64 0,.int .i64 0,.int .i64 0,.int .i64 0,.bool false,.slice none 0 0,.slice none 0 0],.int .i64 0,.bool false])∧StTo w w' p F s) ∨
 (∃ (a:Nat) (n:Nat) (fin:Bool) (fresh:Int) (A:Option Addr) (c:Nat) (F':List Nat) (a3 a4 a5:Value),NextI s room most a n fin fresh ∧
  e=.returned (.tuple #[.agg #[.int .i64 3,.int .i64 s.id,.int .i64 (a:Int),.int .i64 0,.int .i64 0,.int .i64 0,.bool fin,.slice A n c,.slice none 0 0],.int .i64 fresh,.bool true]) ∧
  StIn w' p F' a3 a4 a5 (putS s a n fin fresh)∧Kept F w w'∧(∀ k ∈ F',k ∈ F∨w.heap.size≤k)∧w'.ownsRow w.heap.size 5 1 (.slice A n c) n (bv ((s.bs.drop a).take n))∧∀ k ∈ fp (.slice A n c),k ∉ F')
theorem Mid.more {F3:List Nat} (h:Mid w w' p g F F' v3 v4 v5 s) (hs:Kept F3 w' W) (hd:∀ k ∈ F',k ∉ F3) (hn:∀ k ∈ F3,w.heap.size≤k):Mid w W p g F F' v3 v4 v5 s :=
 ⟨h.st.kept hs hd,h.kept.trans hs (fun k hk=>.inr (hn k hk)),h.new,h.far,h.own⟩
theorem next_st (h:StIn w p F v3 v4 v5 s) (hok:StOk s) (room most:Int) (hr:room≤9223372036854775807) :
  Calls Try.prog 25 #[.pointer (some ⟨p,0,none⟩),.int .i64 room,.int .i64 most] w (NextP s room most w p F):=by
 obtain ⟨g,hg⟩:∃ g,w.heap.size=g:=⟨_,rfl⟩
 obtain ⟨w1,hw1⟩:∃ x,w.alloc (.cells #[.int .i64 0,.int .i64 0,.int .i64 0,.int .i64 0,.int .i64 0,.int .i64 0,.bool false,.slice none 0 0,.slice none 0 0] 54)=x:=⟨_,rfl⟩
 have hM:Mid w w1 p g F F v3 v4 v5 s:=by rw [← hg,← hw1];exact mid_new h _
 have hg1:FrB w1 g 0 0 0 0 0 0 false none 0 0 none 0 0:=by rw [← hg,← hw1];exact heap_alloc_new w _
 obtain ⟨hu0,hu1,hu2⟩:=hok.u
 have hn4:=hok.n
 have hlen:=edges_len hok
 have HOK:=Lib.hid hok
 have HDUE:=Lib.hid (due_st hM.st hok most)
 have hdi:=dueS_in hok most
 have HNS:Hid (∀ n fin fresh,NextI s room most (dueS s most).1 n fin fresh→nextS s room most=some (⟨(dueS s most).1,n,fin,fresh⟩,putS s (dueS s most).1 n fin fresh)):=fun n fin fresh h=>next_of h
 have HNN:Hid (nextS s room most=if room<bareS s (dueS s most).1 then none else if fitS ((dueS s most).2 - (dueS s most).1) room (bareS s (dueS s most).1)=0∧¬ (finS s (dueS s most).1 (fitS ((dueS s most).2 - (dueS s most).1) room (bareS s (dueS s most).1))=true∧dueN s.fin=true) then none else nextS s room most):=by
  show _=_
  by_cases h1:room<bareS s (dueS s most).1
  ·rw [if_pos h1];unfold nextS;rw [if_pos h1]
  ·rw [if_neg h1]
   by_cases h2:fitS ((dueS s most).2 - (dueS s most).1) room (bareS s (dueS s most).1)=0∧¬ (finS s (dueS s most).1 (fitS ((dueS s most).2 - (dueS s most).1) room (bareS s (dueS s most).1))=true∧dueN s.fin=true)
   ·rw [if_pos h2];unfold nextS;rw [if_neg h1,if_pos h2]
   ·rw [if_neg h2]
 have HNI:Hid (∀ n fin fresh,n=fitS ((dueS s most).2 - (dueS s most).1) room (bareS s (dueS s most).1)→fin=finS s (dueS s most).1 n→fresh=max ((dueS s most).1+n - s.u) 0→bareS s (dueS s most).1≤room→¬ (n=0∧¬ (fin=true∧dueN s.fin=true))→NextI s room most (dueS s most).1 n fin fresh):=fun n fin fresh e1 e2 e3 e4 e5=>⟨rfl,e1,e2,e3,e4,e5⟩
 obtain ⟨a,ha⟩:∃ x,(dueS s most).1=x:=⟨_,rfl⟩
 obtain ⟨b,hb⟩:∃ x,(dueS s most).2=x:=⟨_,rfl⟩
 rw [ha,hb] at HDUE HNN HNI hdi
 rw [ha] at HNS
 obtain ⟨hd1,hd2,hd3,hd4,_,_⟩:=hdi
 have HFIT:=Lib.hid (fun W=>fit_st hok.id a (b - a) room ⟨hd1,by omega⟩ ⟨by omega,by omega⟩ hr W)
 obtain ⟨bare,hba⟩:∃ x,bareS s a=x:=⟨_,rfl⟩
 rw [hba] at HFIT HNN HNI
 obtain ⟨i,rfl⟩:∃ i:Nat,a=(i:Int):=⟨a.toNat,by omega⟩
 have hm0:∃ (m:Nat) (ok:Bool),(m:Int)≤b - i∧ok=decide (bare≤room)∧(ok=true→(m:Int)=fitS (b - i) room bare)∧(ok=false→m=0)∧∀ W,Calls Try.prog 67 #[.agg #[.int .i64 3,.int .i64 s.id,.int .i64 (i:Int),.int .i64 0,.int .i64 0,.int .i64 0,.bool false,.slice none 0 0,.slice none 0 0],.int .i64 (b - i),.int .i64 room] W fun e w'=>e=.returned (.tuple #[.int .i64 (m:Int),.bool ok])∧Below W.heap.size W w':=by
  by_cases hlt:room<bare
  ·refine ⟨0,false,by omega,(decide_eq_false (by omega)).symm,(fun h=>by cases h),(fun _=>rfl),fun W=>?_⟩
   have:=HFIT.out W
   rw [if_pos hlt] at this
   exact this
  ·have hf:=fitS_in (b - i) room bare (by omega) (by omega)
   obtain ⟨m,hm⟩:∃ m:Nat,fitS (b - i) room bare=(m:Int):=⟨(fitS (b - i) room bare).toNat,by omega⟩
   refine ⟨m,true,by omega,(decide_eq_true (by omega)).symm,(fun _=>hm.symm),(fun h=>by cases h),fun W=>?_⟩
   have:=HFIT.out W
   rw [if_neg hlt,hm] at this
   exact this
 obtain ⟨m,ok,hmb,hok1,hok2,hok3,hfit⟩:=hm0
 have HF2:=Lib.hid hfit
 have HO1:=Lib.hid hok1
 have HO2:=Lib.hid hok2
 have HO3:=Lib.hid hok3
 obtain ⟨j,hj⟩:∃ j:Nat,i+m=j:=⟨_,rfl⟩
 have hjI:(i:Int)+(m:Int)=(j:Int):=by omega
 have HJ:=Lib.hid hjI
 have hj4:(j:Int)≤4000:=by omega
 have hm4:(m:Int)≤4000:=by omega
 have hi4:(i:Int)≤4000:=by omega
 have hb4:b≤4000:=by omega
 have HSIZE:Hid ((j:Int)≤(s.bs.length:Int)∧(i:Int)≤s.u):=by constructor <;> omega
 obtain ⟨fin,hfin⟩:∃ x,finS s i m=x:=⟨_,rfl⟩
 have HFIN:Hid (fin=(s.fd && !s.rs && decide ((j:Int)=(s.bs.length:Int)))):=by rw [← hfin,← hjI];exact rfl
 have HFI:=Lib.hid hfin
 have HM:=Lib.hid hM
 have HW:=Lib.hid hw1
 have HGG:=Lib.hid hg
 have HLN:=Lib.hid hlen
 have HG:=Lib.hid hg1
 have HBA:=Lib.hid hba
 have HAA:=Lib.hid ha
 have HBB:=Lib.hid hb
 have HMB:=Lib.hid hmb
 clear h hM hw1 hg1 hg hlen hfin hfit hok1 hok2 hok3 HFIT hok hba ha hb hj hjI hd3 hd4 hu0 hu1 hu2 hn4 hmb
 go_enter Try.func25,Try.ntmps25
 go_wp2_with fail
 rw [HW.out,HGG.out]
 refine HDUE.out.mono ?_
 rintro e w2 ⟨rfl,hb2⟩
 have HM2:=Lib.hid (HM.out.below hb2)
 have hglt:g<w1.heap.size:=lt_of_block HG.out
 have HG2:Hid (FrB w2 g 0 0 0 0 0 0 false none 0 0 none 0 0):=(hb2.block g hglt).trans HG.out
 clear hb2 hglt HDUE
 obtain ⟨y0,y1,y2,y3,y4,y5,y6,y7,y8⟩:=HG2.out.cells
 have f0:=free_slot (o:=0) HG2.out
 have f1:=free_slot (o:=1) HG2.out
 have f2:=free_slot (o:=2) HG2.out
 have f3:=free_slot (o:=3) HG2.out
 have f4:=free_slot (o:=4) HG2.out
 have f5:=free_slot (o:=5) HG2.out
 have f6:=free_slot (o:=6) HG2.out
 have f7:=free_slot (o:=7) HG2.out
 have f8:=free_slot (o:=8) HG2.out
 obtain ⟨_,_,hc2,_⟩:=HM2.out.st.cells
 go_wp2_with fail
 obtain ⟨w3,hw3⟩:∃ x,(((((((((w2.setCell ⟨g,0,none⟩ (.int .i64 3)).setCell ⟨g,1,none⟩ (.int .i64 s.id)).setCell ⟨g,2,none⟩ (.int .i64 (i:Int))).setCell ⟨g,3,none⟩ (.int .i64 0)).setCell ⟨g,4,none⟩ (.int .i64 0)).setCell ⟨g,5,none⟩ (.int .i64 0)).setCell ⟨g,6,none⟩ (.bool false)).setCell ⟨g,7,none⟩ (.slice none 0 0)).setCell ⟨g,8,none⟩ (.slice none 0 0))=x:=⟨_,rfl⟩
 have HM3:Hid (Mid w w3 p g F F v3 v4 v5 s):=by rw [← hw3];exact (((((((((HM2.out.set _ _).set _ _).set _ _).set _ _).set _ _).set _ _).set _ _).set _ _).set _ _)
 have HG3:Hid (FrB w3 g 3 s.id i 0 0 0 false none 0 0 none 0 0):=by rw [← hw3];exact nine_heap HG2.out _ _ _ _ _ _ _ _ _
 rw [hw3]
 clear hw3 y0 y1 y2 y3 y4 y5 y6 y7 y8 f0 f1 f2 f3 f4 f5 f6 f7 f8 hc2
 refine (HF2.out w3).mono ?_
 rintro e w4 ⟨rfl,hb4w⟩
 have HM4:=Lib.hid (HM3.out.below hb4w)
 have HG4:Hid (FrB w4 g 3 s.id i 0 0 0 false none 0 0 none 0 0):=(hb4w.block g (lt_of_block HG3.out)).trans HG3.out
 clear hb4w
 go_upto_region 5 with (fail)
 rw [HJ.out]
 have HS4:=Lib.hid (size_st HM4.out.st)
 have y6:=cell_slot (o:=6) HG4.out rfl
 have f6:=free_slot (o:=6) HG4.out
 obtain ⟨_,_,_,_,hc6,_,hc8,_⟩:=HM4.out.st.cells
 obtain ⟨n,hn⟩:∃ n:Int,(s.bs.length:Int)=n:=⟨_,rfl⟩
 obtain ⟨fd,hfd⟩:∃ x,s.fd=x:=⟨_,rfl⟩
 obtain ⟨rs,hrs⟩:∃ x,s.rs=x:=⟨_,rfl⟩
 have HFIN2:Hid (fin=(fd && !rs && decide ((j:Int)=n))):=by rw [← hn,← hfd,← hrs];exact HFIN.out
 rw [hn] at HS4
 rw [hfd] at hc6
 rw [hrs] at hc8
 clear hn hfd hrs
 go_cut [] (fun wx=>wx=w4.setCell ⟨g,6,none⟩ (.bool fin))
 case first =>
  cases fd
  ·obtain rfl:fin=false:=by rw [HFIN2.out];rfl
   go_wp2_with fail
   go_meet
   case rel=>rfl
  ·cases rs
   ·go_wp2_with fail
    refine HS4.out.mono ?_;rintro e w5 ⟨rfl,hw5⟩;subst hw5
    go_wp2_with fail
    go_meet
    case rel=>rw [HFIN2.out];rfl
   ·obtain rfl:fin=false:=by rw [HFIN2.out];rfl
    go_wp2_with fail
    go_meet
    case rel=>rfl
 case rest =>
  have HM5:Hid (Mid w wc p g F F v3 v4 v5 s):=by rw [hcut];exact HM4.out.set 6 _
  have HG5:Hid (FrB wc g 3 s.id i 0 0 0 fin none 0 0 none 0 0):=by rw [hcut];exact set_slot HG4.out 6 _
  obtain ⟨w5,hw5⟩:∃ x,wc=x:=⟨_,rfl⟩
  rw [hw5] at HM5 HG5 ⊢
  clear hcut hw5 y6 f6 hc6 hc8 HS4
  have y6:=cell_slot (o:=6) HG5.out rfl
  have HDU:=Lib.hid (due_news p 7 s.fin w5 (HM5.out.st.cells.2.2.2.2.2.1))
  obtain ⟨du,hdu⟩:∃ x,dueN s.fin=x:=⟨_,rfl⟩
  rw [hdu] at HDU HNN HNI
  have HDD:=Lib.hid hdu
  clear hdu
  obtain ⟨r,hr2⟩:∃ r,(!ok || (decide (m=0) && !(fin && du)))=r:=⟨_,rfl⟩
  have HRR:=Lib.hid hr2
  clear hr2
  go_upto_region 6 with (fail)
  go_cut [70] (fun v wx=>v=.bool r∧wx=w5)
  case first =>
   cases ok
   ·obtain rfl:r=true:=by rw [← HRR.out];rfl
    go_wp2_with fail
    go_meet
    case rel=>exact ⟨rfl,rfl⟩
   ·by_cases hm0:m=0
    ·subst hm0
     cases fin
     ·obtain rfl:r=true:=by rw [← HRR.out];rfl
      go_wp2_with fail
      go_meet
      case rel=>exact ⟨rfl,rfl⟩
     ·go_wp2_with fail
      refine HDU.out.mono ?_;rintro e w6 ⟨rfl,hw6⟩;subst hw6
      go_wp2_with fail
      go_meet
      case rel=>exact ⟨by rw [← HRR.out];cases du <;> rfl,rfl⟩
    ·obtain rfl:r=false:=by rw [← HRR.out,decide_eq_false hm0];rfl
     have hmz:((m:Int) == 0)=false:=by simp;omega
     go_wp2_with fail
     go_meet
     case rel=>exact ⟨rfl,rfl⟩
  case rest =>
   obtain ⟨rfl,rfl⟩:=hcut
   have y0:=cell_slot (o:=0) HG5.out rfl
   have f0:=free_slot (o:=0) HG5.out
   have y1:=cell_slot (o:=1) HG5.out rfl
   have f1:=free_slot (o:=1) HG5.out
   have y2:=cell_slot (o:=2) HG5.out rfl
   have f2:=free_slot (o:=2) HG5.out
   have y3:=cell_slot (o:=3) HG5.out rfl
   have f3:=free_slot (o:=3) HG5.out
   have y4:=cell_slot (o:=4) HG5.out rfl
   have f4:=free_slot (o:=4) HG5.out
   have y5:=cell_slot (o:=5) HG5.out rfl
   have f5:=free_slot (o:=5) HG5.out
   have f6:=free_slot (o:=6) HG5.out
   have y7:=cell_slot (o:=7) HG5.out rfl
   have f7:=free_slot (o:=7) HG5.out
   have y8:=cell_slot (o:=8) HG5.out rfl
   have f8:=free_slot (o:=8) HG5.out
   cases r
   case true =>
    have HNO:Hid (nextS s room most=none):=by
     show _=_
     rw [HNN.out]
     cases ok
     ·rw [if_pos (by have:=HO1.out;simp at this;omega)]
     ·rw [if_neg (by have:=HO1.out;simp at this;omega),← HO2.out rfl,HFI.out]
      have:=HRR.out
      rw [if_pos ?_]
      simp at this
      refine ⟨by omega,?_⟩
      have h2:=this.2
      intro hh
      rw [hh.1,hh.2] at h2
      simp at h2
    go_wp2_with fail
    refine ret_three rfl _ _ g 54 _ _ _ _ _ _ _ _ _ _ _ _ rfl rfl rfl (nine_heap HG5.out _ _ _ _ _ _ _ _ _) Try.underlying54 rfl (by kernel_rfl) ?_
    exact .inl ⟨HNO.out,rfl,(((((((((HM5.out.set _ _).set _ _).set _ _).set _ _).set _ _).set _ _).set _ _).set _ _).set _ _).to⟩
   case false =>
    have hokt:ok=true:=by
     have:=HRR.out
     cases ok
     ·simp at this
     ·rfl
    subst hokt
    have HNI2:Hid (NextI s room most (i:Int) (m:Int) fin (max ((j:Int) - s.u) 0)):=by
     have:=HRR.out
     refine HNI.out m fin _ (HO2.out rfl) HFI.out.symm (by rw [← HJ.out]) (by have:=HO1.out;simp at this;exact this) ?_
     intro hh
     apply hh.2
     have h0:m=0:=by have:=hh.1;omega
     rw [h0] at this
     simp at this
     exact this
    obtain ⟨A3,c3,e3,hnc3,hoA,hrd3⟩:=HM5.out.st.form
    subst e3
    have hic:(i:Int)≤(j:Int):=by have:=HJ.out;omega
    have hjn:j≤s.bs.length:=by have:=HSIZE.out.1;omega
    have hjc:(j:Int)≤(c3:Int):=by omega
    have hjl:(j:Int)≤(s.bs.length:Int):=by omega
    have HRD:Hid (Rd wc wc.heap.size (tailA A3 c3 i) ((j - i) * 1) (bv ((s.bs.drop i).take m))):=by
     rw [Nat.mul_one]
     have hji:j - i=m:=by have:=HJ.out;omega
     rw [hji,← bv_take,← bv_drop]
     exact (hrd3.tail c3 i (by omega) hnc3).head m (by omega)
    obtain ⟨_,_,_,hc3,_⟩:=HM5.out.st.cells
    obtain ⟨i0,hi0,hz0,hz1,hz2⟩:=info_parts infoB
    have HI:=Lib.hid (And.intro hi0 (And.intro hz0 (And.intro hz1 hz2)))
    clear hrd3 hi0 hz0 hz1 hz2 HNN HNI HNS
    go_wp2_with fail
    refine still_tail 9 (by kernel_rfl) (by kernel_rfl) ?_
    intro wz hwz
    have HMZ:Hid (Mid w wz p g F F (.slice A3 s.bs.length c3) v4 v5 s):=by rw [hwz];exact HM5.out.drewN 1
    have HGZ:Hid (wz.heap[g]?=some (.cells #[.int .i64 3,.int .i64 s.id,.int .i64 (i:Int),.int .i64 0,.int .i64 0,.int .i64 0,.bool fin,.slice none 0 0,.slice none 0 0] 54 (0,0))):=by rw [hwz];exact HG5.out
    have HRZ:Hid (Rd wz wz.heap.size (tailA A3 c3 i) ((j - i) * 1) (bv ((s.bs.drop i).take m))):=by rw [hwz];exact HRD.out
    replace hc3:wz.cell? ⟨p,3,none⟩=some (.slice A3 s.bs.length c3):=by rw [hwz];exact hc3
    clear y0 y1 y2 y3 y4 y5 y6 y8 f0 f1 f2 f3 f4 f5 f6 f7 f8 y7 hwz
    have y7:=cell_slot (o:=7) HGZ.out rfl
    have HL:Hid (0+(j - i)≤maxLen∧(0+(j - i)) * 1≤140737488355328):=⟨by unfold maxLen;omega,by omega⟩
    simp only [List.take_succ_cons,List.take_zero,List.drop_succ_cons,List.drop_zero]
    iterate 9 still_step
    refine wpStill_nil ?_
    go_wp2_with (at_builtin;refine wpList_app_at _ rfl (.tmp 73) (.tmp 80) 30 rfl wz.heap.size 5 i0 (.int .u8 0) 1 1 Try.underlying30 HI.out.1 HI.out.2.1 HI.out.2.2.1 HI.out.2.2.2 rfl (by decide) (.slice none 0 0) 0 [] rfl (own_nil _ _ _ _) wz.heap.size (tailA A3 c3 i) (j - i) _ (bv ((s.bs.drop i).take m)) rfl HRZ.out (ones_bv _) HL.out.1 HL.out.2 (Nat.le_refl _) ?_)
    all_goals
     intro v8 w8 ho8 hg8 hn8
     rw [show j - i=m by have:=HJ.out;omega] at ho8
     have hb8:Below wz.heap.size wz w8:=⟨hg8.os,hg8.tape,hg8.output,hg8.size,fun k hk=>hg8.block k hk (by simp [Value.ownBlock])⟩
     have hgl:g<wz.heap.size:=lt_of_block HGZ.out
     obtain ⟨A8,c8,e8,_⟩:=own_form ho8
     subst e8
     have hfp:∀ k ∈ fp (.slice A8 m c8),k=wz.heap.size:=fun k hk=>by
      rcases hn8 k hk with hx | hx
      ·simp [fp] at hx
      ·exact hx
     have HM8:=Lib.hid (HMZ.out.below hb8)
     have hg8':=(hb8.block g hgl).trans HGZ.out
     have HO8:Hid (w8.ownsRow w.heap.size 5 1 (.slice A8 m c8) m (bv ((s.bs.drop i).take m))∧(∀ k ∈ fp (.slice A8 m c8),k ∉ F)∧∀ k ∈ fp (.slice A8 m c8),k≠g):=by
      refine ⟨own_base ho8 HMZ.out.kept.size,fun k hk hm=>?_,fun k hk e=>?_⟩
      ·have:=hfp k hk;have:=HMZ.out.st.hF k hm;omega
      ·have:=hfp k hk;omega
     have HG8:=Lib.hid hg8'
     have z7:=cell_slot (o:=7) hg8' rfl
     have zf7:=free_slot (o:=7) hg8'
     have hjm:j - i=m:=by have:=HJ.out;omega
     rw [hjm]
     have HGF:Hid (∀ (W:World),W.ownsRow w.heap.size 5 1 (.slice A8 m c8) m (bv ((s.bs.drop i).take m))→∀ k ∈ fp (.slice A8 m c8),k≠g):=fun _ _=>HO8.out.2.2
     clear ho8 hg8 hn8 hb8 hgl hfp hg8' hjm y7
     go_upto_region 9 with (fail)
     obtain ⟨w9,hw9⟩:∃ x,w8.setCell ⟨g,7,none⟩ (.slice A8 m c8)=x:=⟨_,rfl⟩
     have HM9:Hid (Mid w w9 p g F F (.slice A3 s.bs.length c3) v4 v5 s):=by rw [← hw9];exact HM8.out.set 7 _
     have HG9:Hid (w9.heap[g]?=some (.cells #[.int .i64 3,.int .i64 s.id,.int .i64 (i:Int),.int .i64 0,.int .i64 0,.int .i64 0,.bool fin,.slice A8 m c8,.slice none 0 0] 54 (0,0))):=by rw [← hw9];exact set_slot HG8.out 7 _
     have HO9:Hid (w9.ownsRow w.heap.size 5 1 (.slice A8 m c8) m (bv ((s.bs.drop i).take m))∧∀ k ∈ fp (.slice A8 m c8),k ∉ F):=by
      rw [← hw9]
      exact ⟨own_kept HO8.out.1 (kept_put w8 (F:=[g]) (by simp) 7 _) (fun k hk e=>HO8.out.2.2 k hk (by simpa using e)),HO8.out.2.1⟩
     rw [hw9]
     clear hw9 z7 zf7
     go_wp2_with fail
     refine (lost_drop HM9.out.st (by have:=HLN.out;omega) i j).mono ?_
     rintro e w10 ⟨rfl,hs10⟩
     obtain ⟨F10,a10,b10,c10,hm10,hg10,hk10,hn10⟩:=HM9.out.then2 (lt_of_block HG9.out) hs10
     have HM10:=Lib.hid hm10
     have HG10:Hid (w10.heap[g]?=_):=hg10.trans HG9.out
     have HO10:=Lib.hid (row_then HO9.out.1 HO9.out.2 hk10 hn10)
     clear hs10 hm10 hg10 hk10 hn10
     have y6:=cell_slot (o:=6) HG10.out rfl
     have HUB:Hid (Cr.useB s.l s.u (max ((j:Int) - s.u) 0)=true):=by
      obtain ⟨_,_,_,_,_,h6,h7,_⟩:=HNI2.out.facts HOK.out
      exact decide_eq_true ⟨h6,h7⟩
     cases fin
     case false =>
      have HPUT:Hid (putS s i m false (max ((j:Int) - s.u) 0)=⟨s.l,s.u+max ((j:Int) - s.u) 0,s.id,s.bs,turn s.lost i j false,s.came,s.fd,s.fin,s.rs,s.code,s.sure,s.br⟩):=by
       unfold putS;rw [HJ.out];rfl
      have HM11:=HM10
      have HG11:=HG10
      have HO11:=HO10
      go_wp2_with fail
      have hus0:0≤s.u:=HOK.out.u.1
      have hus4:s.u≤4000:=by have:=HOK.out.u;have:=HOK.out.n;omega
      refine (sent_st HM11.out.st (by have:=HOK.out.u;show s.u≤(s.bs.length:Int);omega)).mono ?_
      rintro e w12 ⟨rfl,q12,hw12⟩
      have hm12:=HM11.out.drewN q12
      rw [← hw12] at hm12
      have HM12:=Lib.hid hm12
      have HG12:Hid (w12.heap[g]?=some (.cells #[.int .i64 3,.int .i64 s.id,.int .i64 (i:Int),.int .i64 0,.int .i64 0,.int .i64 0,.bool false,.slice A8 m c8,.slice none 0 0] 54 (0,0))):=by rw [hw12];exact HG11.out
      have HO12:Hid (w12.ownsRow w.heap.size 5 1 (.slice A8 m c8) m (bv ((s.bs.drop i).take m))):=by rw [hw12];exact own_below HO11.out.1 ⟨rfl,rfl,rfl,Nat.le_refl _,fun _ _=>rfl⟩
      clear hw12 hm12
      go_wp2_with fail
      refine (Cr.use_any HM12.out.st.cred ⟨by have:=HOK.out.u;show 0≤s.l;omega,by have:=HOK.out.l;show s.l≤_;omega⟩ ⟨by have:=HOK.out.u;show 0≤s.u;omega,by have:=HOK.out.u;have:=HOK.out.l;show s.u≤_;omega⟩ (max ((j:Int) - s.u) 0)).mono ?_
      rintro e w13 ⟨rfl,hcr⟩
      rw [HUB.out] at hcr ⊢
      have hs13:=HM12.out.st.toCred hcr
      obtain ⟨F13,a13,b13,c13,hm13,hg13,hk13,hn13⟩:=HM12.out.then2 (lt_of_block HG12.out) hs13
      have HM13:=Lib.hid hm13
      have HG13:Hid (w13.heap[g]?=_):=hg13.trans HG12.out
      have HO13:=Lib.hid (row_then HO12.out HO11.out.2 hk13 hn13)
      clear hcr hs13 hm13 hg13 hk13 hn13
      have y0:=cell_slot (o:=0) HG13.out rfl
      have f0:=free_slot (o:=0) HG13.out
      have y1:=cell_slot (o:=1) HG13.out rfl
      have f1:=free_slot (o:=1) HG13.out
      have y2:=cell_slot (o:=2) HG13.out rfl
      have f2:=free_slot (o:=2) HG13.out
      have y3:=cell_slot (o:=3) HG13.out rfl
      have f3:=free_slot (o:=3) HG13.out
      have y4:=cell_slot (o:=4) HG13.out rfl
      have f4:=free_slot (o:=4) HG13.out
      have y5:=cell_slot (o:=5) HG13.out rfl
      have f5:=free_slot (o:=5) HG13.out
      have y6:=cell_slot (o:=6) HG13.out rfl
      have f6:=free_slot (o:=6) HG13.out
      have y7:=cell_slot (o:=7) HG13.out rfl
      have f7:=free_slot (o:=7) HG13.out
      have y8:=cell_slot (o:=8) HG13.out rfl
      have f8:=free_slot (o:=8) HG13.out
      go_wp2_with fail
      refine ret_three rfl _ _ g 54 _ _ _ _ _ _ _ _ _ _ _ _ rfl rfl rfl (nine_heap HG13.out _ _ _ _ _ _ _ _ _) Try.underlying54 rfl (by kernel_rfl) ?_
      have hfin:=((((((((HM13.out.set 0 (.int .i64 3)).set 1 (.int .i64 s.id)).set 2 (.int .i64 (i:Int))).set 3 (.int .i64 0)).set 4 (.int .i64 0)).set 5 (.int .i64 0)).set 6 (.bool false)).set 7 (.slice A8 m c8)).set 8 (.slice none 0 0)
      refine .inr ⟨i,m,false,_,A8,c8,F13,a13,b13,c13,HNI2.out,rfl,?_,hfin.kept,hfin.new,?_,HO13.out.2⟩
      ·have:=hfin.st
       rw [HPUT.out]
       exact this
      ·exact nine_own HO13.out.1 (HGF.out _ HO13.out.1) _ _ _ _ _ _ _ _ _
     case true =>
      have HPUT:Hid (putS s i m true (max ((j:Int) - s.u) 0)=⟨s.l,s.u+max ((j:Int) - s.u) 0,s.id,s.bs,turn s.lost i j false,s.came,s.fd,tellN s.fin,s.rs,s.code,s.sure,s.br⟩):=by
       unfold putS;rw [HJ.out];rfl
      go_wp2_with fail
      refine (tell_fin HM10.out.st).mono ?_
      rintro e w11 ⟨rfl,hs11,hk11⟩
      have HM11:Hid (Mid w w11 p g F F10 a10 b10 c10 _):=⟨hs11,HM10.out.kept.trans hk11 HM10.out.new,HM10.out.new,HM10.out.far,HM10.out.own⟩
      have HG11:Hid (w11.heap[g]?=_):=(hk11.block g (lt_of_block HG10.out) HM10.out.far).trans HG10.out
      have HO11:=Lib.hid (row_then HO10.out.1 HO10.out.2 hk11 (fun _ hk=>.inl hk))
      clear hs11 hk11
      go_wp2_with fail
      have hus0:0≤s.u:=HOK.out.u.1
      have hus4:s.u≤4000:=by have:=HOK.out.u;have:=HOK.out.n;omega
      refine (sent_st HM11.out.st (by have:=HOK.out.u;show s.u≤(s.bs.length:Int);omega)).mono ?_
      rintro e w12 ⟨rfl,q12,hw12⟩
      have hm12:=HM11.out.drewN q12
      rw [← hw12] at hm12
      have HM12:=Lib.hid hm12
      have HG12:Hid (w12.heap[g]?=some (.cells #[.int .i64 3,.int .i64 s.id,.int .i64 (i:Int),.int .i64 0,.int .i64 0,.int .i64 0,.bool true,.slice A8 m c8,.slice none 0 0] 54 (0,0))):=by rw [hw12];exact HG11.out
      have HO12:Hid (w12.ownsRow w.heap.size 5 1 (.slice A8 m c8) m (bv ((s.bs.drop i).take m))):=by rw [hw12];exact own_below HO11.out.1 ⟨rfl,rfl,rfl,Nat.le_refl _,fun _ _=>rfl⟩
      clear hw12 hm12
      go_wp2_with fail
      refine (Cr.use_any HM12.out.st.cred ⟨by have:=HOK.out.u;show 0≤s.l;omega,by have:=HOK.out.l;show s.l≤_;omega⟩ ⟨by have:=HOK.out.u;show 0≤s.u;omega,by have:=HOK.out.u;have:=HOK.out.l;show s.u≤_;omega⟩ (max ((j:Int) - s.u) 0)).mono ?_
      rintro e w13 ⟨rfl,hcr⟩
      rw [HUB.out] at hcr ⊢
      have hs13:=HM12.out.st.toCred hcr
      obtain ⟨F13,a13,b13,c13,hm13,hg13,hk13,hn13⟩:=HM12.out.then2 (lt_of_block HG12.out) hs13
      have HM13:=Lib.hid hm13
      have HG13:Hid (w13.heap[g]?=_):=hg13.trans HG12.out
      have HO13:=Lib.hid (row_then HO12.out HO11.out.2 hk13 hn13)
      clear hcr hs13 hm13 hg13 hk13 hn13
      have y0:=cell_slot (o:=0) HG13.out rfl
      have f0:=free_slot (o:=0) HG13.out
      have y1:=cell_slot (o:=1) HG13.out rfl
      have f1:=free_slot (o:=1) HG13.out
      have y2:=cell_slot (o:=2) HG13.out rfl
      have f2:=free_slot (o:=2) HG13.out
      have y3:=cell_slot (o:=3) HG13.out rfl
      have f3:=free_slot (o:=3) HG13.out
      have y4:=cell_slot (o:=4) HG13.out rfl
      have f4:=free_slot (o:=4) HG13.out
      have y5:=cell_slot (o:=5) HG13.out rfl
      have f5:=free_slot (o:=5) HG13.out
      have y6:=cell_slot (o:=6) HG13.out rfl
      have f6:=free_slot (o:=6) HG13.out
      have y7:=cell_slot (o:=7) HG13.out rfl
      have f7:=free_slot (o:=7) HG13.out
      have y8:=cell_slot (o:=8) HG13.out rfl
      have f8:=free_slot (o:=8) HG13.out
      go_wp2_with fail
      refine ret_three rfl _ _ g 54 _ _ _ _ _ _ _ _ _ _ _ _ rfl rfl rfl (nine_heap HG13.out _ _ _ _ _ _ _ _ _) Try.underlying54 rfl (by kernel_rfl) ?_
      have hfin:=((((((((HM13.out.set 0 (.int .i64 3)).set 1 (.int .i64 s.id)).set 2 (.int .i64 (i:Int))).set 3 (.int .i64 0)).set 4 (.int .i64 0)).set 5 (.int .i64 0)).set 6 (.bool true)).set 7 (.slice A8 m c8)).set 8 (.slice none 0 0)
      refine .inr ⟨i,m,true,_,A8,c8,F13,a13,b13,c13,HNI2.out,rfl,?_,hfin.kept,hfin.new,?_,HO13.out.2⟩
      ·have:=hfin.st
       rw [HPUT.out]
       exact this
      ·exact nine_own HO13.out.1 (HGF.out _ HO13.out.1) _ _ _ _ _ _ _ _ _
end
end Go.Proofs.Ytoahkffdoaphlaa.Se
