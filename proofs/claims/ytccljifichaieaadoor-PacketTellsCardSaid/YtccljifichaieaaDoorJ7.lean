/- Joined texts. Conditions: as each theorem lists them. -/
import Derived.Test.YtccljifichaieaaDoorJ6
import Derived.Deep.DeepCutAuto
import Derived.BigQuiet
import Derived.Test.YtccljifichaieaaDoorJ5b
set_option linter.unusedSimpArgs false
set_option linter.unusedVariables false
set_option maxRecDepth 100000
set_option maxHeartbeats 8000000
namespace Go.Proofs.YtccljifichaieaaDoor
open Go Go.RowKit
def optN (b:Bool) (s:Rs):Int × Rs:=match b with | true=>numR s | false=>(0,s)
def optF (b:Bool) (s:Rs):Bool × Rs:=match b with | true=>flagR s | false=>(false,s)
def optD (b:Bool) (s:Rs):List Nat × Rs:=match b with | true=>dataR s | false=>([],s)
def optS (b:Bool) (s:Rs):List Int × Rs:=match b with | true=>spansR s | false=>([],s)
def bodyR (x0:Int × Rs) (B:Nat→Bool):Fr × Rs :=
 let x1:=optN (B 0) x0.2
 let x2:=optN (B 1) x1.2
 let x3:=optN (B 2) x2.2
 let x4:=optN (B 3) x3.2
 let x5:=optF (B 4) x4.2
 let x6:=optD (B 5) x5.2
 let x7:=optS (B 6) x6.2
 (⟨x0.1,x1.1,x3.1,x2.1,x4.1,0,x5.1,x6.1,x7.1⟩,needR x7.2 (rightB ⟨x0.1,x1.1,x3.1,x2.1,x4.1,0,x5.1,x6.1,x7.1⟩) 2)
def frameR (s:Rs):Fr × Rs:=bodyR (numR s) (nbit (numR s).1)
theorem dataR_len (s:Rs):(dataR s).1.length≤120:=by
 unfold dataR
 split
 ·rename_i h
  have h1:=(needR_zero (by decide) h).2.2
  have h2:=(needR_zero (by decide) h1).2.1
  have h3:(numR s).1≤120:=by simpa using h2
  have:=numR_nn s
  show (List.take _ _).length≤120
  rw [List.length_take]
  omega
 ·exact Nat.zero_le _
theorem optD_len (b:Bool) (s:Rs):(optD b s).1.length≤120:=by cases b;exact Nat.zero_le _;exact dataR_len s
/-- A frame on its way: the reader, the variable, the result's cells. -/
def FrSt (w:World) (p g0 g:Nat) (cs:Array Value) (s:Rs) (wx:World):Prop :=
 RdrIn wx p s∧wx.heap[g]?=some (.cells cs 44 (0,0))∧wx.heap[g0]?=some (.cells #[.int .i64 0,.int .i64 0,.int .i64 0,.int .i64 0,.int .i64 0,.int .i64 0,.bool false,.slice none 0 0,.slice none 0 0] 44 (0,0))∧w.grownBy wx (some p)
theorem FrSt.call {w:World} {p g0 g:Nat} {cs:Array Value} {s s':Rs} {wx w2:World} (h:FrSt w p g0 g cs s wx) (hr:RdrIn w2 p s') (hg:wx.grownBy w2 (some p)) (hp:p<g0) (hgg:g0<g):FrSt w p g0 g cs s' w2:=by
 obtain ⟨h1,h2,h3,h4⟩:=h
 refine ⟨hr,?_,?_,grown_trans h4 hg⟩
 ·rw [hg.block g (Array.getElem?_eq_some_iff.1 h2).1 (fun e=>by cases e;omega)];exact h2
 ·rw [hg.block g0 (Array.getElem?_eq_some_iff.1 h3).1 (fun e=>by cases e;omega)];exact h3
theorem FrSt.set {w:World} {p g0 g:Nat} {cs:Array Value} {s:Rs} {wx:World} (h:FrSt w p g0 g cs s wx) (j:Nat) (v:Value) (hp:p<g0) (hgg:g0<g) (hw:w.heap.size≤g0):FrSt w p g0 g (cs.setIfInBounds j v) s (wx.setCell ⟨g,j,none⟩ v):=by
 obtain ⟨h1,h2,h3,h4⟩:=h
 refine ⟨h1.setNew (by omega),heap_setCell_same _ _ _ _ _ _ h2,?_,grown_new h4 (by omega)⟩
 rw [heap_setCell_other _ _ _ _ (show g0≠g by omega)];exact h3
theorem FrSt.cell {w:World} {p g0 g:Nat} {cs:Array Value} {s:Rs} {wx:World} (h:FrSt w p g0 g cs s wx) (j:Nat):wx.cell? ⟨g,j,none⟩=cs[j]?∧wx.frozen? ⟨g,j,none⟩=false :=
 ⟨cell_of_row _ _ _ _ _ _ h.2.1,frozen_of_row _ _ _ _ _ h.2.1⟩
def ReadFP (f:Fr) (s':Rs) (p:Nat) (w:World) (e:Ending) (w':World):Prop :=
 ∃ A n c A2 n2 c2,e=.returned (frA f A n c A2 n2 c2)∧f.data.length=n∧f.spans.length=2 * n2∧n≤120∧n2≤8∧w'.ownsRow w.heap.size 5 1 (.slice A n c) n (bv f.data)∧w'.ownsRow w.heap.size 67 2 (.slice A2 n2 c2) n2 (ints f.spans)∧RdrIn w' p s'∧w.grownBy w' (some p)
theorem frame_r (s:Rs) (p:Nat) (w:World) (h:RdrIn w p s) :
  Calls Tryd.prog 55 #[.pointer (some ⟨p,0,none⟩)] w (ReadFP (frameR s).1 (frameR s).2 p w):=by
 have hpw:=h.lt
 have HNU:=number_any s p (w.alloc (.cells #[.int .i64 0,.int .i64 0,.int .i64 0,.int .i64 0,.int .i64 0,.int .i64 0,.bool false,.slice none 0 0,.slice none 0 0] 44)) h.allocs
 unfold frameR
 obtain ⟨k,s0,hk⟩:∃ k s0,numR s=(k,s0):=⟨_,_,rfl⟩
 rw [hk] at HNU ⊢
 have HNU:=Lib.hid HNU
 obtain ⟨B,hB⟩:∃ B,nbit k=B:=⟨_,rfl⟩
 obtain ⟨N,hN⟩:∃ x,(nm k:Int)=x:=⟨_,rfl⟩
 have HNA:Hid (∀ W,Calls Tryd.prog 60 #[.int .i64 k] W fun e w'=>e=.returned (.tuple #[.int .i64 N,.bool (kn k)])∧W=w'):=fun W=>by rw [← hN];exact names_any k W
 obtain ⟨ck,hck⟩:∃ x,kn k=x:=⟨_,rfl⟩
 rw [hck] at HNA
 obtain ⟨b0,h0⟩:∃ x,(bits .and .i64 N 1 != 0)=x:=⟨_,rfl⟩
 obtain ⟨b1,h1⟩:∃ x,(bits .and .i64 N 2 != 0)=x:=⟨_,rfl⟩
 obtain ⟨b2,h2⟩:∃ x,(bits .and .i64 N 4 != 0)=x:=⟨_,rfl⟩
 obtain ⟨b3,h3⟩:∃ x,(bits .and .i64 N 8 != 0)=x:=⟨_,rfl⟩
 obtain ⟨b4,h4⟩:∃ x,(bits .and .i64 N 16 != 0)=x:=⟨_,rfl⟩
 obtain ⟨b5,h5⟩:∃ x,(bits .and .i64 N 32 != 0)=x:=⟨_,rfl⟩
 obtain ⟨b6,h6⟩:∃ x,(bits .and .i64 N 64 != 0)=x:=⟨_,rfl⟩
 have HB:B 0=b0∧B 1=b1∧B 2=b2∧B 3=b3∧B 4=b4∧B 5=b5∧B 6=b6:=by
  rw [← hB]
  unfold nbit
  rw [hN]
  exact ⟨h0,h1,h2,h3,h4,h5,h6⟩
 simp only
 rw [hB]
 obtain ⟨e0,e1,e2,e3,e4,e5,e6⟩:=HB
 unfold bodyR
 simp only
 rw [e0,e1,e2,e3,e4,e5,e6]
 obtain ⟨id,s1,q1⟩:∃ v s',optN b0 s0=(v,s'):=⟨_,_,rfl⟩
 rw [q1];simp only
 obtain ⟨a,s2,q2⟩:∃ v s',optN b1 s1=(v,s'):=⟨_,_,rfl⟩
 rw [q2];simp only
 obtain ⟨off,s3,q3⟩:∃ v s',optN b2 s2=(v,s'):=⟨_,_,rfl⟩
 rw [q3];simp only
 obtain ⟨b,s4,q4⟩:∃ v s',optN b3 s3=(v,s'):=⟨_,_,rfl⟩
 rw [q4];simp only
 obtain ⟨fin,s5,q5⟩:∃ v s',optF b4 s4=(v,s'):=⟨_,_,rfl⟩
 rw [q5];simp only
 have hdl:=optD_len b5 s5
 obtain ⟨data,s6,q6⟩:∃ v s',optD b5 s5=(v,s'):=⟨_,_,rfl⟩
 rw [q6] at hdl ⊢;simp only at hdl ⊢
 obtain ⟨es,s7,q7⟩:∃ v s',optS b6 s6=(v,s'):=⟨_,_,rfl⟩
 rw [q7];simp only
 obtain ⟨f,hf⟩:∃ f:Fr,Hid ((⟨k,id,off,a,b,0,fin,data,es⟩:Fr)=f):=⟨_,rfl⟩
 rw [show (⟨k,id,off,a,b,0,fin,data,es⟩:Fr)=f from hf.out]
 obtain ⟨rb,hrb⟩:∃ x,Hid (rightB f=x):=⟨_,rfl⟩
 rw [hrb.out]
 have Q1:=Lib.hid q1
 have Q2:=Lib.hid q2
 have Q3:=Lib.hid q3
 have Q4:=Lib.hid q4
 have Q5:=Lib.hid q5
 have Q6:=Lib.hid q6
 have Q7:=Lib.hid q7
 have HDL:=Lib.hid hdl
 clear q1 q2 q3 q4 q5 q6 q7 hk hck hB hN e0 e1 e2 e3 e4 e5 e6 h hdl
 go_enter Tryd.func55,Tryd.ntmps55
 go_wp2_with fail
 refine HNU.out.mono ?_
 rintro e w1 ⟨rfl,hr,hg⟩
 have HZ0:Hid (w1.heap[w.heap.size]?=some (.cells #[.int .i64 0,.int .i64 0,.int .i64 0,.int .i64 0,.int .i64 0,.int .i64 0,.bool false,.slice none 0 0,.slice none 0 0] 44 (0,0))):=by show _=_;rw [hg.block w.heap.size (by simp) (fun e=>by cases e;omega)];exact heap_alloc_new _ _
 obtain ⟨g0,hg0⟩:∃ g,Hid (w.heap.size=g):=⟨_,rfl⟩
 obtain ⟨g,hg1⟩:∃ g,Hid (w1.heap.size=g):=⟨_,rfl⟩
 have hgg:Hid (g0<g):=by rw [← hg0.out,← hg1.out];exact (Array.getElem?_eq_some_iff.1 HZ0.out).1
 have hpg:Hid (p<g0):=by rw [← hg0.out];exact hpw
 have hwg:Hid (w.heap.size≤g0):=by rw [← hg0.out];exact Nat.le_refl _
 have HS0:Hid (FrSt w p g0 g #[.int .i64 k,.int .i64 0,.int .i64 0,.int .i64 0,.int .i64 0,.int .i64 0,.bool false,.slice none 0 0,.slice none 0 0] s0 (w1.alloc (.cells #[.int .i64 k,.int .i64 0,.int .i64 0,.int .i64 0,.int .i64 0,.int .i64 0,.bool false,.slice none 0 0,.slice none 0 0] 44))):=by
  refine ⟨hr.allocs,?_,?_,grown_trans (grown_trans (grown_alloc _) hg) (grown_alloc _)⟩
  ·rw [← hg1.out];exact heap_alloc_new _ _
  ·rw [← hg0.out,heap_alloc_old _ _ (Array.getElem?_eq_some_iff.1 HZ0.out).1];exact HZ0.out
 clear hr hg
 rw [hg0.out]
 go_wp2_with fail
 refine (HNA.out _).mono ?_
 rintro e w' ⟨rfl,hw'⟩
 subst hw'
 rw [hg1.out]
 obtain ⟨wc,hwc⟩:∃ wc:World,(w1.alloc (.cells #[.int .i64 k,.int .i64 0,.int .i64 0,.int .i64 0,.int .i64 0,.int .i64 0,.bool false,.slice none 0 0,.slice none 0 0] 44))=wc:=⟨_,rfl⟩
 rw [hwc] at HS0 ⊢
 clear hwc
 go_upto_if 17 with (fail)
 go_cut [4] (fun v wx=>v=.int .i64 N∧Hid (FrSt w p g0 g #[.int .i64 k,.int .i64 id,.int .i64 0,.int .i64 0,.int .i64 0,.int .i64 0,.bool false,.slice none 0 0,.slice none 0 0] s1 wx))
 case first =>
  cases b0
  ·have hq:(0,s0)=(id,s1):=Q1.out
   obtain ⟨rfl,rfl⟩:=Prod.mk.injEq .. ▸ hq
   go_wp2_with fail
   go_meet
   case rel=>exact ⟨rfl,HS0⟩
  ·have hq:numR s0=(id,s1):=Q1.out
   have HN:=number_any s0 p wc HS0.out.1
   rw [hq] at HN
   have HN:=Lib.hid HN
   clear hq
   go_wp2_with fail
   refine HN.out.mono ?_
   rintro e w2 ⟨rfl,hr,hg⟩
   have HS2:=Lib.hid (HS0.out.call hr hg hpg.out hgg.out)
   have hc:=(HS2.out.cell 1).1
   have hf:=(HS2.out.cell 1).2
   have HN2:Hid (FrSt w p g0 g #[.int .i64 k,.int .i64 id,.int .i64 0,.int .i64 0,.int .i64 0,.int .i64 0,.bool false,.slice none 0 0,.slice none 0 0] s1 (w2.setCell ⟨g,1,none⟩ (.int .i64 id))):=HS2.out.set 1 _ hpg.out hgg.out hwg.out
   clear hr hg
   go_wp2_with fail
   go_meet
   case rel=>exact ⟨rfl,HN2⟩
 case rest =>
 obtain ⟨rfl,HS1⟩:=hcut
 obtain ⟨wd,hwd⟩:∃ wd:World,wc=wd:=⟨_,rfl⟩
 subst hwd
 clear h0 HS0
 go_upto_if 23 with (fail)
 go_cut [4] (fun v wx=>v=.int .i64 N∧Hid (FrSt w p g0 g #[.int .i64 k,.int .i64 id,.int .i64 0,.int .i64 a,.int .i64 0,.int .i64 0,.bool false,.slice none 0 0,.slice none 0 0] s2 wx))
 case first =>
  cases b1
  ·have hq:(0,s1)=(a,s2):=Q2.out
   obtain ⟨rfl,rfl⟩:=Prod.mk.injEq .. ▸ hq
   go_wp2_with fail
   go_meet
   case rel=>exact ⟨rfl,HS1⟩
  ·have hq:numR s1=(a,s2):=Q2.out
   have HN:=number_any s1 p wc HS1.out.1
   rw [hq] at HN
   have HN:=Lib.hid HN
   clear hq
   go_wp2_with fail
   refine HN.out.mono ?_
   rintro e w2 ⟨rfl,hr,hg⟩
   have HS2:=Lib.hid (HS1.out.call hr hg hpg.out hgg.out)
   have hc:=(HS2.out.cell 3).1
   have hf:=(HS2.out.cell 3).2
   have HN2:Hid (FrSt w p g0 g #[.int .i64 k,.int .i64 id,.int .i64 0,.int .i64 a,.int .i64 0,.int .i64 0,.bool false,.slice none 0 0,.slice none 0 0] s2 (w2.setCell ⟨g,3,none⟩ (.int .i64 a))):=HS2.out.set 3 _ hpg.out hgg.out hwg.out
   clear hr hg
   go_wp2_with fail
   go_meet
   case rel=>exact ⟨rfl,HN2⟩
 case rest =>
 obtain ⟨rfl,HS2⟩:=hcut
 obtain ⟨wd,hwd⟩:∃ wd:World,wc=wd:=⟨_,rfl⟩
 subst hwd
 clear h1 HS1
 go_upto_if 29 with (fail)
 go_cut [4] (fun v wx=>v=.int .i64 N∧Hid (FrSt w p g0 g #[.int .i64 k,.int .i64 id,.int .i64 off,.int .i64 a,.int .i64 0,.int .i64 0,.bool false,.slice none 0 0,.slice none 0 0] s3 wx))
 case first =>
  cases b2
  ·have hq:(0,s2)=(off,s3):=Q3.out
   obtain ⟨rfl,rfl⟩:=Prod.mk.injEq .. ▸ hq
   go_wp2_with fail
   go_meet
   case rel=>exact ⟨rfl,HS2⟩
  ·have hq:numR s2=(off,s3):=Q3.out
   have HN:=number_any s2 p wc HS2.out.1
   rw [hq] at HN
   have HN:=Lib.hid HN
   clear hq
   go_wp2_with fail
   refine HN.out.mono ?_
   rintro e w2 ⟨rfl,hr,hg⟩
   have HS2:=Lib.hid (HS2.out.call hr hg hpg.out hgg.out)
   have hc:=(HS2.out.cell 2).1
   have hf:=(HS2.out.cell 2).2
   have HN2:Hid (FrSt w p g0 g #[.int .i64 k,.int .i64 id,.int .i64 off,.int .i64 a,.int .i64 0,.int .i64 0,.bool false,.slice none 0 0,.slice none 0 0] s3 (w2.setCell ⟨g,2,none⟩ (.int .i64 off))):=HS2.out.set 2 _ hpg.out hgg.out hwg.out
   clear hr hg
   go_wp2_with fail
   go_meet
   case rel=>exact ⟨rfl,HN2⟩
 case rest =>
 obtain ⟨rfl,HS3⟩:=hcut
 obtain ⟨wd,hwd⟩:∃ wd:World,wc=wd:=⟨_,rfl⟩
 subst hwd
 clear h2 HS2
 go_upto_if 35 with (fail)
 go_cut [4] (fun v wx=>v=.int .i64 N∧Hid (FrSt w p g0 g #[.int .i64 k,.int .i64 id,.int .i64 off,.int .i64 a,.int .i64 b,.int .i64 0,.bool false,.slice none 0 0,.slice none 0 0] s4 wx))
 case first =>
  cases b3
  ·have hq:(0,s3)=(b,s4):=Q4.out
   obtain ⟨rfl,rfl⟩:=Prod.mk.injEq .. ▸ hq
   go_wp2_with fail
   go_meet
   case rel=>exact ⟨rfl,HS3⟩
  ·have hq:numR s3=(b,s4):=Q4.out
   have HN:=number_any s3 p wc HS3.out.1
   rw [hq] at HN
   have HN:=Lib.hid HN
   clear hq
   go_wp2_with fail
   refine HN.out.mono ?_
   rintro e w2 ⟨rfl,hr,hg⟩
   have HS2:=Lib.hid (HS3.out.call hr hg hpg.out hgg.out)
   have hc:=(HS2.out.cell 4).1
   have hf:=(HS2.out.cell 4).2
   have HN2:Hid (FrSt w p g0 g #[.int .i64 k,.int .i64 id,.int .i64 off,.int .i64 a,.int .i64 b,.int .i64 0,.bool false,.slice none 0 0,.slice none 0 0] s4 (w2.setCell ⟨g,4,none⟩ (.int .i64 b))):=HS2.out.set 4 _ hpg.out hgg.out hwg.out
   clear hr hg
   go_wp2_with fail
   go_meet
   case rel=>exact ⟨rfl,HN2⟩
 case rest =>
 obtain ⟨rfl,HS4⟩:=hcut
 obtain ⟨wd,hwd⟩:∃ wd:World,wc=wd:=⟨_,rfl⟩
 subst hwd
 clear h3 HS3
 go_upto_if 41 with (fail)
 go_cut [4] (fun v wx=>v=.int .i64 N∧Hid (FrSt w p g0 g #[.int .i64 k,.int .i64 id,.int .i64 off,.int .i64 a,.int .i64 b,.int .i64 0,.bool fin,.slice none 0 0,.slice none 0 0] s5 wx))
 case first =>
  cases b4
  ·have hq:(false,s4)=(fin,s5):=Q5.out
   obtain ⟨rfl,rfl⟩:=Prod.mk.injEq .. ▸ hq
   go_wp2_with fail
   go_meet
   case rel=>exact ⟨rfl,HS4⟩
  ·have hq:flagR s4=(fin,s5):=Q5.out
   have HN:=flag_any s4 p wc HS4.out.1
   rw [hq] at HN
   have HN:=Lib.hid HN
   clear hq
   go_wp2_with fail
   refine HN.out.mono ?_
   rintro e w2 ⟨rfl,hr,hg⟩
   have HS2:=Lib.hid (HS4.out.call hr hg hpg.out hgg.out)
   have hc:=(HS2.out.cell 6).1
   have hf:=(HS2.out.cell 6).2
   have HN2:Hid (FrSt w p g0 g #[.int .i64 k,.int .i64 id,.int .i64 off,.int .i64 a,.int .i64 b,.int .i64 0,.bool fin,.slice none 0 0,.slice none 0 0] s5 (w2.setCell ⟨g,6,none⟩ (.bool fin))):=HS2.out.set 6 _ hpg.out hgg.out hwg.out
   clear hr hg
   go_wp2_with fail
   go_meet
   case rel=>exact ⟨rfl,HN2⟩
 case rest =>
 obtain ⟨rfl,HS5⟩:=hcut
 obtain ⟨wd,hwd⟩:∃ wd:World,wc=wd:=⟨_,rfl⟩
 subst hwd
 clear h4 HS4
 go_upto_if 47 with (fail)
 go_cut [4] (fun v wx=>v=.int .i64 N∧∃ A n c,Hid (data.length=n∧wx.ownsRow (g+1) 5 1 (.slice A n c) n (bv data)∧FrSt w p g0 g #[.int .i64 k,.int .i64 id,.int .i64 off,.int .i64 a,.int .i64 b,.int .i64 0,.bool fin,.slice A n c,.slice none 0 0] s6 wx))
 case first =>
  cases b5
  ·have hq:(([]:List Nat),s5)=(data,s6):=Q6.out
   obtain ⟨rfl,rfl⟩:=Prod.mk.injEq .. ▸ hq
   go_wp2_with fail
   go_meet
   case rel=>exact ⟨rfl,none,0,0,rfl,own_nil _ _ _ _,HS5.out⟩
  ·have hq:dataR s5=(data,s6):=Q6.out
   have HN:=data_any s5 p wc HS5.out.1
   rw [hq] at HN
   have HN:=Lib.hid HN
   clear hq
   go_wp2_with fail
   refine HN.out.mono ?_
   rintro e w2 ⟨A,c,rfl,ho,hr,hg⟩
   obtain ⟨n,hn⟩:∃ n,Hid (data.length=n):=⟨_,rfl⟩
   rw [hn.out] at ho ⊢
   have HS2:=Lib.hid (HS5.out.call hr hg hpg.out hgg.out)
   have hc:=(HS2.out.cell 7).1
   have hf:=(HS2.out.cell 7).2
   have hgl:g<wc.heap.size:=(Array.getElem?_eq_some_iff.1 HS5.out.2.1).1
   have HN2:Hid (data.length=n∧(w2.setCell ⟨g,7,none⟩ (.slice A n c)).ownsRow (g+1) 5 1 (.slice A n c) n (bv data)∧FrSt w p g0 g #[.int .i64 k,.int .i64 id,.int .i64 off,.int .i64 a,.int .i64 b,.int .i64 0,.bool fin,.slice A n c,.slice none 0 0] s6 (w2.setCell ⟨g,7,none⟩ (.slice A n c))) :=
    ⟨hn.out,ownsRow_setCell_below (own_base ho hgl) (a:=⟨g,7,none⟩) (Nat.lt_succ_self g) _,HS2.out.set 7 _ hpg.out hgg.out hwg.out⟩
   clear hr hg ho
   go_wp2_with fail
   go_meet
   case rel=>exact ⟨rfl,A,n,c,HN2⟩
 case rest =>
 obtain ⟨rfl,A,n,c,HD6⟩:=hcut
 obtain ⟨wd,hwd⟩:∃ wd:World,wc=wd:=⟨_,rfl⟩
 subst hwd
 clear h5 HS5
 go_upto_if 53 with (fail)
 go_cut [4] (fun v wx=>v=.int .i64 N∧∃ A2 n2 c2,Hid (es.length=2 * n2∧n2≤8∧wx.ownsRow (g+1) 5 1 (.slice A n c) n (bv data)∧wx.ownsRow (g+1) 67 2 (.slice A2 n2 c2) n2 (ints es)∧FrSt w p g0 g #[.int .i64 k,.int .i64 id,.int .i64 off,.int .i64 a,.int .i64 b,.int .i64 0,.bool fin,.slice A n c,.slice A2 n2 c2] s7 wx))
 case first =>
  cases b6
  ·have hq:(([]:List Int),s6)=(es,s7):=Q7.out
   obtain ⟨rfl,rfl⟩:=Prod.mk.injEq .. ▸ hq
   go_wp2_with fail
   go_meet
   case rel=>exact ⟨rfl,none,0,0,rfl,by omega,HD6.out.2.1,own_nil _ _ _ _,HD6.out.2.2⟩
  ·have hq:spansR s6=(es,s7):=Q7.out
   have HN:=spans_any s6 p wc HD6.out.2.2.1
   rw [hq] at HN
   have HN:=Lib.hid HN
   clear hq
   go_wp2_with fail
   refine HN.out.mono ?_
   rintro e w2 ⟨A2,n2,c2,rfl,hn8,hel,ho,hr,hg⟩
   have HS2:=Lib.hid (HD6.out.2.2.call hr hg hpg.out hgg.out)
   have hc:=(HS2.out.cell 8).1
   have hf:=(HS2.out.cell 8).2
   have hgl:g<wc.heap.size:=(Array.getElem?_eq_some_iff.1 HD6.out.2.2.2.1).1
   have hpg1:p<g+1:=by have:=hpg.out;have:=hgg.out;omega
   have HN2:Hid (es.length=2 * n2∧n2≤8∧(w2.setCell ⟨g,8,none⟩ (.slice A2 n2 c2)).ownsRow (g+1) 5 1 (.slice A n c) n (bv data)∧(w2.setCell ⟨g,8,none⟩ (.slice A2 n2 c2)).ownsRow (g+1) 67 2 (.slice A2 n2 c2) n2 (ints es)∧FrSt w p g0 g #[.int .i64 k,.int .i64 id,.int .i64 off,.int .i64 a,.int .i64 b,.int .i64 0,.bool fin,.slice A n c,.slice A2 n2 c2] s7 (w2.setCell ⟨g,8,none⟩ (.slice A2 n2 c2))) :=
    ⟨hel,hn8,ownsRow_setCell_below (own_grown HD6.out.2.1 hg hpg1) (a:=⟨g,8,none⟩) (Nat.lt_succ_self g) _,ownsRow_setCell_below (own_base ho hgl) (a:=⟨g,8,none⟩) (Nat.lt_succ_self g) _,HS2.out.set 8 _ hpg.out hgg.out hwg.out⟩
   clear hr hg ho hel
   go_wp2_with fail
   go_meet
   case rel=>exact ⟨rfl,A2,n2,c2,HN2⟩
 case rest =>
 obtain ⟨rfl,A2,n2,c2,HD7⟩:=hcut
 obtain ⟨wd,hwd⟩:∃ wd:World,wc=wd:=⟨_,rfl⟩
 subst hwd
 have hdn:Hid (data.length=n):=HD6.out.1
 clear h6 HD6
 obtain ⟨hel,hn8,hod,hos,hst⟩:=HD7.out
 have hpg1:p<g+1:=by have:=hpg.out;have:=hgg.out;omega
 obtain ⟨_,_,ev,hnc,_,_,hrd⟩:=own_form hod
 simp only [Value.slice.injEq] at ev
 obtain ⟨rfl,_,rfl⟩:=ev
 obtain ⟨_,_,ev,hnc2,_,_,hrs⟩:=own_form hos
 simp only [Value.slice.injEq] at ev
 obtain ⟨rfl,_,rfl⟩:=ev
 rw [Nat.mul_one] at hrd
 have HRI:Hid (Calls Tryd.prog 42 #[.agg #[.int .i64 k,.int .i64 id,.int .i64 off,.int .i64 a,.int .i64 b,.int .i64 0,.bool fin,.slice A n c,.slice A2 n2 c2]] wc fun e w'=>e=.returned (.bool (rightB f))∧Below wc.heap.size wc w'):=by
  rw [← hf.out]
  exact right_any ⟨k,id,off,a,b,0,fin,data,es⟩ wc.heap.size A n c A2 n2 c2 wc ⟨hdn.out,hnc,hrd,by simp only;omega,hnc2,hrs⟩ (Nat.le_refl _) (by have:=HDL.out;have:=hdn.out;omega) (by omega)
 rw [hrb.out] at HRI
 have HNE:=Lib.hid (fun W h=>need_any s7 p rb 2 W h)
 have HD:=Lib.hid hod
 have HO:=Lib.hid hos
 have HS7:=Lib.hid hst
 have HEL:=Lib.hid hel
 clear hrd hrs hod hos hst hel
 have l0:=(HS7.out.cell 0).1
 have l1:=(HS7.out.cell 1).1
 have l2:=(HS7.out.cell 2).1
 have l3:=(HS7.out.cell 3).1
 have l4:=(HS7.out.cell 4).1
 have l5:=(HS7.out.cell 5).1
 have l6:=(HS7.out.cell 6).1
 have l7:=(HS7.out.cell 7).1
 have l8:=(HS7.out.cell 8).1
 go_wp2_with fail
 refine HRI.out.mono ?_
 rintro e w3 ⟨rfl,hb⟩
 have HS8:=Lib.hid (HS7.out.call (HS7.out.1.below hb) (below_grown hb p) hpg.out hgg.out)
 have HD8:=Lib.hid (own_below HD.out hb)
 have HO8:=Lib.hid (own_below HO.out hb)
 clear hb l0 l1 l2 l3 l4 l5 l6 l7 l8
 go_wp2_with fail
 refine (HNE.out _ HS8.out.1).mono ?_
 rintro e w4 ⟨rfl,hr,hg⟩
 have HS9:=Lib.hid (HS8.out.call hr hg hpg.out hgg.out)
 have HD9:=Lib.hid (own_grown HD8.out hg hpg1)
 have HO9:=Lib.hid (own_grown HO8.out hg hpg1)
 clear hr hg
 have l0:=(HS9.out.cell 0).1
 have l1:=(HS9.out.cell 1).1
 have l2:=(HS9.out.cell 2).1
 have l3:=(HS9.out.cell 3).1
 have l4:=(HS9.out.cell 4).1
 have l5:=(HS9.out.cell 5).1
 have l6:=(HS9.out.cell 6).1
 have l7:=(HS9.out.cell 7).1
 have l8:=(HS9.out.cell 8).1
 have z0:=cell_of_row w4 g0 0 _ _ _ HS9.out.2.2.1
 have z1:=cell_of_row w4 g0 1 _ _ _ HS9.out.2.2.1
 have z2:=cell_of_row w4 g0 2 _ _ _ HS9.out.2.2.1
 have z3:=cell_of_row w4 g0 3 _ _ _ HS9.out.2.2.1
 have z4:=cell_of_row w4 g0 4 _ _ _ HS9.out.2.2.1
 have z5:=cell_of_row w4 g0 5 _ _ _ HS9.out.2.2.1
 have z6:=cell_of_row w4 g0 6 _ _ _ HS9.out.2.2.1
 have z7:=cell_of_row w4 g0 7 _ _ _ HS9.out.2.2.1
 have z8:=cell_of_row w4 g0 8 _ _ _ HS9.out.2.2.1
 have y0:=frozen_of_row w4 g0 0 _ _ HS9.out.2.2.1
 have y1:=frozen_of_row w4 g0 1 _ _ HS9.out.2.2.1
 have y2:=frozen_of_row w4 g0 2 _ _ HS9.out.2.2.1
 have y3:=frozen_of_row w4 g0 3 _ _ HS9.out.2.2.1
 have y4:=frozen_of_row w4 g0 4 _ _ HS9.out.2.2.1
 have y5:=frozen_of_row w4 g0 5 _ _ HS9.out.2.2.1
 have y6:=frozen_of_row w4 g0 6 _ _ HS9.out.2.2.1
 have y7:=frozen_of_row w4 g0 7 _ _ HS9.out.2.2.1
 have y8:=frozen_of_row w4 g0 8 _ _ HS9.out.2.2.1
 go_wp2_with fail
 (try simp only [Exit.inBlock,Exit.then])
 have R0:=HS9.out.2.2.1
 have R1:=heap_setCell_same _ g0 0 _ _ (.int .i64 k) R0
 have R2:=heap_setCell_same _ g0 1 _ _ (.int .i64 id) R1
 have R3:=heap_setCell_same _ g0 2 _ _ (.int .i64 off) R2
 have R4:=heap_setCell_same _ g0 3 _ _ (.int .i64 a) R3
 have R5:=heap_setCell_same _ g0 4 _ _ (.int .i64 b) R4
 have R6:=heap_setCell_same _ g0 5 _ _ (.int .i64 0) R5
 have R7:=heap_setCell_same _ g0 6 _ _ (.bool fin) R6
 have R8:=heap_setCell_same _ g0 7 _ _ (.slice A n c) R7
 have R9:=heap_setCell_same _ g0 8 _ _ (.slice A2 n2 c2) R8
 refine bodyPost_ret (results_cell_row rfl _ _ g0 44 _ (0,0) _ rfl R9 Tryd.underlying44 rfl (by kernel_rfl)) rfl ?_
 have hg1':∀ j:Nat,g0<g+1:=fun _=>by have:=hgg.out;omega
 rw [← hf.out]
 refine ⟨A,n,c,A2,n2,c2,rfl,hdn.out,HEL.out,by have:=HDL.out;have:=hdn.out;omega,hn8,?_,?_,?_,?_⟩
 ·refine own_base (base:=g+1) ?_ (by have:=hgg.out;have:=hwg.out;omega)
  iterate 9 (refine ownsRow_setCell_below ?_ (hg1' 0) _)
  exact HD9.out
 ·refine own_base (base:=g+1) ?_ (by have:=hgg.out;have:=hwg.out;omega)
  iterate 9 (refine ownsRow_setCell_below ?_ (hg1' 0) _)
  exact HO9.out
 ·iterate 9 (refine RdrIn.setNew ?_ hpg.out)
  exact HS9.out.1
 ·iterate 9 (refine grown_new ?_ hwg.out)
  exact HS9.out.2.2.2
end Go.Proofs.YtccljifichaieaaDoor
namespace Go.Proofs.YtccljifichaieaaDoor
open Go Go.RowKit
def Good (s s':Rs):Prop:=s'.bs.length≤s.bs.length∧(s'.e=0→s.e=0)
theorem Good.refl (s:Rs):Good s s:=⟨Nat.le_refl _,fun h=>h⟩
theorem Good.trans {a b c:Rs} (h:Good a b) (k:Good b c):Good a c:=⟨Nat.le_trans k.1 h.1,fun e=>h.2 (k.2 e)⟩
theorem needR_good (s:Rs) (ok:Bool) (e:Int) (he:e≠0):Good s (needR s ok e):=⟨by rw [needR_bs];exact Nat.le_refl _,fun h=>(needR_zero he h).2.2⟩
theorem numR_lt (s:Rs):Good s (numR s).2∧((numR s).2.e=0→(numR s).2.bs.length<s.bs.length):=by
 unfold numR
 split
 ·refine ⟨needR_good _ _ _ (by decide),fun h=>?_⟩
  have:=(needR_zero (by decide) h).2.1
  cases this
 ·rename_i v W hd
  split
  ·rename_i h0
   have:=dec_le hd
   exact ⟨⟨by simp only [List.length_drop];omega,fun _=>h0⟩,fun _=>by simp only [List.length_drop];omega⟩
  ·rename_i h0
   exact ⟨Good.refl _,fun h=>absurd h h0⟩
theorem flagR_good (s:Rs):Good s (flagR s).2:=(numR_lt s).1.trans (needR_good _ _ _ (by decide))
theorem runS_good (s:Rs) (l:Int):Good s (runS s l).2:=((needR_good s _ _ (by decide)).trans (numR_lt _).1).trans (needR_good _ _ _ (by decide))
theorem dataR_good (s:Rs):Good s (dataR s).2:=by
 have h1:=(numR_lt s).1.trans (needR_good (numR s).2 (decide ((numR s).1≤120)) 2 (by decide))
 unfold dataR
 split
 ·rename_i h
  refine ⟨Nat.le_trans ?_ h1.1,fun _=>h1.2 (needR_zero (by decide) h).2.2⟩
  simp only [List.length_drop]
  omega
 ·exact h1.trans (needR_good _ _ _ (by decide))
theorem stepS_good (x:List Int × Rs) (k:Nat):Good x.2 (stepS x k).2:=((numR_lt x.2).1.trans (needR_good _ _ _ (by decide))).trans (runS_good _ _)
theorem runsS_good (x:List Int × Rs) (k:Nat):Good x.2 (runsS x k).2:=by
 induction k with
 | zero=>exact Good.refl _
 | succ k ih=>exact ih.trans (stepS_good _ _)
theorem spansR_good (s:Rs):Good s (spansR s).2:=by
 have h1:=(numR_lt s).1
 have h2:=h1.trans (needR_good (numR s).2 (okS (numR s).1) 2 (by decide))
 unfold spansR
 split
 ·exact (h1.trans ((numR_lt _).1.trans (runS_good _ _))).trans (runsS_good ([(runS (numR (numR s).2).2 (numR (numR s).2).1).1,(numR (numR s).2).1],(runS (numR (numR s).2).2 (numR (numR s).2).1).2) _)
 ·exact h2
theorem optN_good (b:Bool) (s:Rs):Good s (optN b s).2:=by cases b;exact Good.refl _;exact (numR_lt s).1
theorem optF_good (b:Bool) (s:Rs):Good s (optF b s).2:=by cases b;exact Good.refl _;exact flagR_good s
theorem optD_good (b:Bool) (s:Rs):Good s (optD b s).2:=by cases b;exact Good.refl _;exact dataR_good s
theorem optS_good (b:Bool) (s:Rs):Good s (optS b s).2:=by cases b;exact Good.refl _;exact spansR_good s
theorem bodyR_good (x:Int × Rs) (B:Nat→Bool):Good x.2 (bodyR x B).2 :=
 (((((((optN_good _ _).trans (optN_good _ _)).trans (optN_good _ _)).trans (optN_good _ _)).trans (optF_good _ _)).trans (optD_good _ _)).trans (optS_good _ _)).trans (needR_good _ _ _ (by decide))
theorem frameR_lt (s:Rs):(frameR s).2.e=0→(frameR s).2.bs.length<s.bs.length:=fun h=>by
 have h1:=bodyR_good (numR s) (nbit (numR s).1)
 exact Nat.lt_of_le_of_lt h1.1 ((numR_lt s).2 (h1.2 h))
/-- Read, by at most so many frames. -/
def readN:Nat→Rs→List Fr × Rs
 | 0,s=>([],s)
 | n+1,s=>if s.bs.length=0 then ([],s) else if (frameR s).2.e=0 then ((frameR s).1 :: (readN n (frameR s).2).1,(readN n (frameR s).2).2) else ([],(frameR s).2)
/-- Another block grows: the frames stay. -/
theorem FrC.other {w w':World} {f:Fr} {cs:List Value} (h:FrC w f cs) {p:Nat} (hg:w.grownBy w' (some p)) (hr:∃ cur fr,w.heap[p]?=some (.cells cur 78 fr)):FrC w' f cs:=by
 obtain ⟨A,n,c,A2,n2,c2,e,h1,h2,h3,h4⟩:=h
 obtain ⟨cur,fr,hh⟩:=hr
 have key:∀ {t size m:Nat} {v:Value} {xs:List Value},w.ownsRow 0 t size v m xs→t≠78→w'.ownsRow 0 t size v m xs:=fun ho hne=>by
  refine ho.kept hg ?_
  have:=own_other ho hh hne
  first | exact .inr (Ne.symm this) | exact .inr this | exact .inr (fun e=>this e) | exact .inr (fun e=>this e.symm)
 exact ⟨A,n,c,A2,n2,c2,e,h1,h2,key h3 (by decide),key h4 (by decide)⟩
theorem FrsOwn.other {w w':World} {base p:Nat} {v:Value} {fs:List Fr} (h:FrsOwn w base v fs) (hg:w.grownBy w' (some p)) (hr:∃ cur fr,w.heap[p]?=some (.cells cur 78 fr)):FrsOwn w' base v fs:=by
 obtain ⟨cs,h1,h2⟩:=h
 refine ⟨cs,h1.kept hg ?_,h2.map fun _ _ h=>h.other hg hr⟩
 obtain ⟨cur,fr,hh⟩:=hr
 have:=own_other h1 hh (by decide)
 first | exact .inr (Ne.symm this) | exact .inr this | exact .inr (fun e=>this e) | exact .inr (fun e=>this e.symm)
theorem FrsOwn.alloc {w:World} {base:Nat} {v:Value} {fs:List Fr} (h:FrsOwn w base v fs) (o:Obj):FrsOwn (w.alloc o) base v fs:=h.below ((Below.refl _ _).alloc (Nat.le_refl _) _)
theorem RdrIn.blk {w:World} {p:Nat} {s:Rs} (h:RdrIn w p s):∃ cur fr,w.heap[p]?=some (.cells cur 78 fr):=by
 obtain ⟨A,n,c,h1,_⟩:=h
 exact ⟨_,_,h1⟩
/-- What Read has made: the rest is still to read. -/
def RdLoop (w:World) (p N:Nat) (y:List Fr × Rs) (v:Value) (wr:World):Prop :=
 ∃ acc s m,FrsOwn wr w.heap.size v acc∧RdrIn wr p s∧s.e=0∧s.bs.length≤m∧acc.length+s.bs.length≤N∧(acc ++ (readN m s).1,(readN m s).2)=y∧Below w.heap.size w wr
def ReadP (y:List Fr × Rs) (w:World) (e:Ending) (w':World):Prop :=
 (y.2.e=0→∃ A c,e=.returned (.tuple #[.slice A y.1.length c,.int .i64 0])∧FrsOwn w' w.heap.size (.slice A y.1.length c) y.1) ∧
 (y.2.e≠0→e=.returned (.tuple #[.slice none 0 0,.int .i64 y.2.e]))∧Below w.heap.size w w'
theorem read_ok (bs:List Nat) (A:Option Addr) (c:Nat) (w:World) (hrd:Rd w w.heap.size A bs.length (bv bs)) (hb:∀ x ∈ bs,x<256) (hc:bs.length≤c) (hm:bs.length≤1000000) :
  Calls Tryd.prog 36 #[.slice A bs.length c] w (ReadP (readN bs.length ⟨bs,0⟩) w):=by
 obtain ⟨p,hp⟩:∃ p,Hid (w.heap.size=p):=⟨_,rfl⟩
 obtain ⟨N,hN⟩:∃ N,Hid (bs.length=N):=⟨_,rfl⟩
 have HR0:Hid (RdrIn (w.alloc (.cells #[.slice A N c,.int .i64 0] 78)) p ⟨bs,0⟩):=by
  rw [← hN.out,← hp.out]
  exact ⟨A,bs.length,c,heap_alloc_new _ _,rfl,hc,hrd.alloc (Nat.le_refl _) _,hb,by omega⟩
 obtain ⟨y,hy⟩:∃ y,Hid (readN bs.length ⟨bs,0⟩=y):=⟨_,Lib.hid rfl⟩
 have HL0:Hid (RdLoop w p N y (.slice none 0 0) (w.alloc (.cells #[.slice A N c,.int .i64 0] 78))) :=
  ⟨[],⟨bs,0⟩,bs.length,FrsOwn.nil _ _,HR0.out,rfl,Nat.le_refl _,by have:=hN.out;simp only [List.length_nil];omega,by rw [← hy.out];rfl,(Below.refl _ _).alloc (Nat.le_refl _) _⟩
 rw [hy.out]
 rw [hN.out] at hm ⊢
 obtain ⟨i0,hi,hz0,hz1',hz2⟩:=info_parts infoFr
 have HI:=Lib.hid (And.intro hi (And.intro hz0 (And.intro hz1' hz2)))
 clear hrd hb hc hi hz0 hz1' hz2 HR0
 go_enter Tryd.func36,Tryd.ntmps36
 go_wp2_with fail
 rw [hp.out]
 go_loopw [4] (fun v wr=>(∃ A' n' c',v=.slice A' n' c')∧Hid (RdLoop w p N y v wr)) (fun v _=>N - lenV v)
 case atStart=>exact ⟨⟨_,_,_,rfl⟩,HL0⟩
 case round =>
  obtain ⟨⟨A',n',c',rfl⟩,HL⟩:=hrel
  obtain ⟨acc,s,m,hF,hr,he,hbm,hN',hyeq,hbw⟩:=HL.out
  obtain ⟨cs,hcs,hfc⟩:=hF
  obtain ⟨_,_,ev,hnc,_,_,_⟩:=own_form hcs
  simp only [Value.slice.injEq] at ev
  obtain ⟨rfl,hn',rfl⟩:=ev
  subst hn'
  have HR:=Lib.hid hr
  have HB:=Lib.hid hbw
  have HC:=Lib.hid hcs
  have HFC:=Lib.hid hfc
  obtain ⟨A2,n2,c2,k1,k2,k3,k4,k5,k6⟩:=hr
  obtain ⟨d0,d1,fz⟩:=pair_cells k1
  clear fz d1 k1 k4 k5 hcs hfc HL HL0
  by_cases h0:s.bs.length=0
  ·have hn2:n2=0:=by omega
   subst hn2
   have hrn:readN m s=([],s):=by
    cases m with
    | zero=>rfl
    | succ m=>unfold readN;rw [if_pos h0]
   have hy':y=(acc,s):=by rw [← hyeq,hrn];simp
   have HE:Hid (ReadP y w (.returned (.tuple #[.slice A' acc.length c',.int .i64 0])) wr):=by
    rw [hy']
    exact ⟨fun _=>⟨A',c',rfl,cs,HC.out,HFC.out⟩,fun h=>absurd he h,HB.out⟩
   clear hyeq hy' hrn k2 hnc h0 he hbm
   go_wp2_with fail
   go_ret2
   exact HE.out
  ·have h2i:(0:Int)<(n2:Int):=by omega
   obtain ⟨m,rfl⟩:∃ m',m=m'+1:=⟨m - 1,by omega⟩
   have hlt:=frameR_lt s
   have hrn:readN (m+1) s=if (frameR s).2.e=0 then ((frameR s).1 :: (readN m (frameR s).2).1,(readN m (frameR s).2).2) else ([],(frameR s).2):=by
    show (if s.bs.length=0 then _ else _)=_
    rw [if_neg h0]
   rw [hrn] at hyeq
   have HFR:=frame_r s p wr HR.out
   obtain ⟨f,s',hx⟩:∃ f s',frameR s=(f,s'):=⟨_,_,rfl⟩
   rw [hx] at HFR hlt hyeq
   simp only at hlt hyeq
   have HFR:=Lib.hid HFR
   have HY:=Lib.hid hyeq
   have HN:=Lib.hid hN'
   have HM:=Lib.hid hbm
   have HLT:=Lib.hid hlt
   clear hx hrn hyeq h0 he hbm hN' hlt k2
   go_wp2_with fail
   refine HFR.out.mono ?_
   rintro e w2 ⟨Aa,na,ca,Ab,nb,cb,rfl,hd,hsz,h120,h8,ho1,ho2,hr2,hg⟩
   unfold frA
   have HR2:=Lib.hid (hr2.allocs (x:=.cells #[.int .i64 f.k,.int .i64 f.id,.int .i64 f.off,.int .i64 f.a,.int .i64 f.b,.int .i64 f.note,.bool f.fin,.slice Aa na ca,.slice Ab nb cb] 44))
   have HB2:Hid (Below w.heap.size w w2):=HB.out.trans (grown_below hg HB.out.size (by rw [hp.out];exact Nat.le_refl _))
   have HO2:Hid (FrsOwn w2 w.heap.size (.slice A' acc.length c') acc):=FrsOwn.other ⟨cs,HC.out,HFC.out⟩ hg HR.out.blk
   have HC2:Hid (FrC w2 f (frC f (.slice Aa na ca) (.slice Ab nb cb))):=⟨Aa,na,ca,Ab,nb,cb,rfl,hd,by omega,own_base ho1 (Nat.zero_le _),own_base ho2 (Nat.zero_le _)⟩
   have HBLK:=Lib.hid hr2.blk
   clear hd hsz ho1 ho2 hr2 hg d0
   have hr3:=HR2.out
   obtain ⟨A3,n3,c3,k1,k2',k3',k4,k5,k6'⟩:=hr3
   obtain ⟨d0,d1,fz⟩:=pair_cells k1
   clear fz k1 k2' k3' k4 k5 k6'
   by_cases he':s'.e=0
   ·have hne:(s'.e == 0)=true:=by simpa using he'
    rw [he'] at d1
    have hyy:=HY.out
    rw [if_pos he'] at hyy
    have HYY:=Lib.hid hyy
    have hlen:=HLT.out he'
    have hal:acc.length+1≤1000000:=by have:=HN.out;have:=HM.out;omega
    obtain ⟨ds,hds,hfds⟩:=HO2.out
    have HDS:=Lib.hid hds
    have HFDS:=Lib.hid hfds
    have hb2:Hid (w.heap.size≤((w2.alloc (.cells #[.int .i64 f.k,.int .i64 f.id,.int .i64 f.off,.int .i64 f.a,.int .i64 f.b,.int .i64 f.note,.bool f.fin,.slice Aa na ca,.slice Ab nb cb] 44)).alloc (.cells #[.int .i64 f.k,.int .i64 f.id,.int .i64 f.off,.int .i64 f.a,.int .i64 f.b,.int .i64 f.note,.bool f.fin,.slice Aa na ca,.slice Ab nb cb] 44)).heap.size):=by have:=HB2.out.size;show _≤_;simp only [World.size_alloc];omega
    have HSE:=Lib.hid he'
    clear hds hfds hyy he'
    go_wp2_with (at_builtin;refine wpList_app _ rfl (.tmp 19) (.tmp 21) 27 rfl w.heap.size 44 i0 (.agg #[.int .i64 0,.int .i64 0,.int .i64 0,.int .i64 0,.int .i64 0,.int .i64 0,.bool false,.slice none 0 0,.slice none 0 0]) 9 104 Tryd.underlying27 HI.out.1 HI.out.2.1 HI.out.2.2.1 HI.out.2.2.2 rfl (by decide) (.slice A' acc.length c') acc.length ds rfl ((HDS.out.alloc _).alloc _) ((w2.alloc (.cells #[.int .i64 f.k,.int .i64 f.id,.int .i64 f.off,.int .i64 f.a,.int .i64 f.b,.int .i64 f.note,.bool f.fin,.slice Aa na ca,.slice Ab nb cb] 44)).heap.size+1) (some ⟨(w2.alloc (.cells #[.int .i64 f.k,.int .i64 f.id,.int .i64 f.off,.int .i64 f.a,.int .i64 f.b,.int .i64 f.note,.bool f.fin,.slice Aa na ca,.slice Ab nb cb] 44)).heap.size,0,none⟩) 1 1 (frC f (.slice Aa na ca) (.slice Ab nb cb)) (by simp [Act.eval]) (rd_new _ _ _ _ _ _ _ rfl (Nat.lt_succ_self _) rfl rfl) HC2.out.ones (by unfold maxLen;omega) (by omega) hb2.out ?_)
    intro v1 w5 hown1 hgrow1
    obtain ⟨A5,c5,e5,_⟩:=own_form hown1
    subst e5
    have hrow:∀ j,(Value.slice A' acc.length c').ownBlock=some j→p+1≤j:=fun j hj=>by
     have h1:=(HDS.out.lt j hj).1
     rw [hp.out] at h1
     have h2:j≠p:=fun e=>by
      subst e
      obtain ⟨cur,fr,hh⟩:=HBLK.out
      exact own_other HDS.out hh (by decide) hj
     omega
    have HNX:Hid (RdLoop w p N y (.slice A5 (acc.length+1) c5) w5):=by
     refine ⟨acc ++ [f],s',m,?_,HR2.out.allocs.row hgrow1 (Nat.lt_succ_self p) hrow,HSE.out,by have:=HM.out;omega,by rw [List.length_append];have:=HN.out;simp only [List.length_cons,List.length_nil];omega,by rw [← HYY.out];simp,((HB2.out.alloc HB2.out.size _).alloc (by rw [World.size_alloc];exact Nat.le_succ_of_le HB2.out.size) _).grown hgrow1 hb2.out (fun g hg=>(HDS.out.lt g hg).1)⟩
     exact FrsOwn.push (HDS.out.alloc _) (HFDS.out.below ((Below.refl _ _).alloc (Nat.le_refl _) _)) (HC2.out.below ((Below.refl _ _).alloc (Nat.le_refl _) _)) hown1 hgrow1
    clear hown1 hgrow1 hrow
    go_wp2_with fail
    go_roundw
    case rel=>exact ⟨⟨_,_,_,rfl⟩,HNX⟩
    case measure=>simp [lenV];have:=HN.out;have:=HM.out;omega
   ·have hne:(s'.e == 0)=false:=by simpa using he'
    have hyy:=HY.out
    rw [if_neg he'] at hyy
    have HE:Hid (∀ w',Below w2.heap.size w2 w'→ReadP y w (.returned (.tuple #[.slice none 0 0,.int .i64 s'.e])) w'):=fun w' hw=>by
     rw [← hyy]
     exact ⟨fun h=>absurd h he',fun _=>rfl,HB2.out.trans (hw.mono HB2.out.size)⟩
    clear hyy he'
    go_wp2_with fail
    go_quiet (fail)
    go_wp2_with fail
    go_ret2
    refine HE.out _ ?_
    have hba:=(Below.refl w2.heap.size w2).alloc (Nat.le_refl _) (.cells #[.int .i64 f.k,.int .i64 f.id,.int .i64 f.off,.int .i64 f.a,.int .i64 f.b,.int .i64 f.note,.bool f.fin,.slice Aa na ca,.slice Ab nb cb] 44)
    exact ⟨hba.os,hba.tape,hba.output,hba.size,hba.block⟩
end Go.Proofs.YtccljifichaieaaDoor
namespace Go.Proofs.YtccljifichaieaaDoor
open Go Go.RowKit
theorem num_enc (n:Int) (r:List Nat) (h:wid n≠0):numR ⟨encB n ++ r,0⟩=(n,⟨r,0⟩):=by
 have h0:=wid_ok h
 unfold numR
 simp only [dec_enc n h r,if_true]
 rw [List.drop_left' (encB_len n),Int.toNat_of_nonneg h0.1]
theorem need_ok (bs:List Nat) (ok:Bool) (e:Int) (h:ok=true):needR ⟨bs,0⟩ ok e=⟨bs,0⟩:=by
 unfold needR;rw [if_neg (by rw [h];simp)]
theorem run_enc (lo last:Int) (r:List Nat) (h0:0≤lo) (h1:lo≤last) (h2:last≤4611686018427387903):runS ⟨encB (last - lo) ++ r,0⟩ last=(lo,⟨r,0⟩):=by
 unfold runS
 rw [need_ok _ _ _ (decide_eq_true (by omega)),num_enc _ _ (wid_in (by omega) (by omega)),need_ok _ _ _ (decide_eq_true (by simp only;omega))]
 simp only
 rw [IntWalk.wrap64_in _ (by omega),show last - (last - lo)=lo by omega]
/-- A run's bytes; those from the q-th on. -/
def grp (es:List Int) (q:Nat):List Nat:=encB (runG es q) ++ encB (es.getD (2 * q+1) 0 - es.getD (2 * q) 0)
def grps (es:List Int):Nat→Nat→List Nat
 | _,0=>[]
 | q,d+1=>grp es q ++ grps es (q+1) d
theorem encsB_app (a b:List Int):encsB (a ++ b)=encsB a ++ encsB b:=by simp [encsB]
theorem runN_grps (es:List Int):∀ d q,encsB (runN es (q+d))=encsB (runN es q) ++ grps es q d
 | 0,q=>by simp [grps]
 | d+1,q=>by
   have h:=runN_grps es d (q+1)
   rw [show q+(d+1)=q+1+d by omega,h]
   simp only [runN,encsB_app,grps,grp,List.append_assoc]
   congr 1
   simp [encsB]
theorem take_two (es:List Int) (q:Nat) (h:2 * (q+1)≤es.length):es.take (2 * (q+1))=es.take (2 * q) ++ [es.getD (2 * q) 0,es.getD (2 * q+1) 0]:=by
 have e0:es.getD (2 * q) 0=es[2 * q]'(by omega):=by simp [List.getD,List.getElem?_eq_getElem (show 2 * q<es.length by omega)]
 have e1:es.getD (2 * q+1) 0=es[2 * q+1]'(by omega):=by simp [List.getD,List.getElem?_eq_getElem (show 2 * q+1<es.length by omega)]
 rw [e0,e1,show 2 * (q+1)=2 * q+1+1 by omega,take_snoc' es (2 * q+1) (by omega),take_snoc' es (2 * q) (by omega),List.append_assoc]
 rfl
theorem getD_take (es:List Int) (j n:Nat) (h:j<n):(es.take n).getD j 0=es.getD j 0:=by
 simp [List.getD,List.getElem?_take,h]
theorem runs_enc {es:List Int} {m:Nat} (hs:SpsOk es m) (r:List Nat):∀ q,q+1≤m→∀ x,x=(es.take 2,(⟨grps es 1 (m - 1) ++ r,0⟩:Rs))→runsS x q=(es.take (2 * (q+1)),⟨grps es (q+1) (m - (q+1)) ++ r,0⟩)
 | 0,_,x,hx=>by rw [hx];rfl
 | q+1,hq,x,hx=>by
   have ih:=runs_enc hs r q (by omega) x hx
   show stepS (runsS x q) q=_
   rw [ih]
   obtain ⟨h1,h2,h3,h4⟩:=hs.2 (q+1) (by omega)
   obtain ⟨g1,g2,g3,_⟩:=hs.2 q (by omega)
   have h4':=h4 (by omega)
   rw [show q+1 - 1=q by omega] at h4'
   have hl:=hs.1
   have hd:m - (q+1)=(m - (q+1+1))+1:=by omega
   unfold stepS
   simp only
   rw [hd]
   simp only [grps,grp,List.append_assoc]
   have hrg:runG es (q+1)=es.getD (2 * q) 0 - es.getD (2 * (q+1)+1) 0:=by unfold runG;rw [if_neg (by omega),show q+1 - 1=q by omega]
   rw [hrg,num_enc _ _ (wid_in (by omega) (by omega))]
   simp only
   rw [need_ok _ _ _ (decide_eq_true (by omega)),getD_take es (2 * q) _ (by omega)]
   rw [IntWalk.wrap64_in _ (by omega),show es.getD (2 * q) 0 - (es.getD (2 * q) 0 - es.getD (2 * (q+1)+1) 0)=es.getD (2 * (q+1)+1) 0 by omega]
   rw [run_enc _ _ _ h1 h2 h3,take_two es (q+1) (by omega)]
theorem spans_enc {es:List Int} {m:Nat} (hs:SpsOk es m) (h1:1≤m) (h8:m≤8) (r:List Nat):spansR ⟨encB ((m:Nat):Int) ++ (encsB (runN es m) ++ r),0⟩=(es,⟨r,0⟩):=by
 have hl:=hs.1
 have hr:=runN_grps es m 0
 rw [Nat.zero_add] at hr
 obtain ⟨d,rfl⟩:∃ d,m=d+1:=⟨m - 1,by omega⟩
 obtain ⟨g1,g2,g3,_⟩:=hs.2 0 (by omega)
 simp only [Nat.mul_zero,Nat.zero_add] at g1 g2 g3
 have hr':encsB (runN es (d+1))=encB (es.getD 1 0) ++ (encB (es.getD 1 0 - es.getD 0 0) ++ grps es 1 d):=by
  rw [hr]
  show encsB [] ++ (grp es 0 ++ grps es 1 d)=_
  simp [grp,runG,encsB]
 rw [hr']
 simp only [List.append_assoc]
 unfold spansR
 rw [num_enc _ _ (wid_in (by omega) (by omega))]
 simp only
 have hok:okS ((d+1:Nat):Int)=true:=by unfold okS;simp only [Bool.and_eq_true,decide_eq_true_eq];omega
 rw [need_ok _ _ _ hok,if_pos rfl,num_enc _ _ (wid_in (by omega) (by omega))]
 simp only
 rw [run_enc _ _ _ g1 g2 g3]
 simp only
 rw [show (((d+1:Nat):Int)).toNat - 1=d by omega]
 rw [runs_enc hs r d (Nat.le_refl _) _ (by
  have h2:=take_two es 0 (by omega)
  simp only [Nat.mul_zero,Nat.zero_add,Nat.mul_one,List.take_zero,List.nil_append] at h2
  rw [h2,show d+1 - 1=d by omega])]
 rw [List.take_of_length_le (by omega),show d+1 - (d+1)=0 by omega]
 rfl
theorem data_enc (data:List Nat) (h:data.length≤120) (r:List Nat):dataR ⟨encB ((data.length:Nat):Int) ++ (data ++ r),0⟩=(data,⟨r,0⟩):=by
 unfold dataR
 rw [num_enc _ _ (wid_in (by omega) (by omega))]
 simp only
 rw [need_ok _ _ _ (decide_eq_true (by omega))]
 simp only
 rw [need_ok _ _ _ (decide_eq_true (by simp only [List.length_append];omega)),if_pos rfl,Int.toNat_natCast,List.take_left' rfl,List.drop_left' rfl]
theorem flag_enc (b:Bool) (r:List Nat):flagR ⟨encB (bitI b) ++ r,0⟩=(b,⟨r,0⟩):=by
 unfold flagR
 rw [num_enc _ _ (by cases b <;> decide),need_ok _ _ _ (by cases b <;> rfl)]
 cases b <;> rfl
end Go.Proofs.YtccljifichaieaaDoor
namespace Go.Proofs.YtccljifichaieaaDoor
open Go Go.RowKit
def eN (b:Bool) (v:Int):List Nat:=match b with | true=>encB v | false=>[]
theorem optN_enc (b:Bool) (v:Int) (r:List Nat) (hw:wid v≠0) (h0:b=false→v=0):optN b ⟨eN b v ++ r,0⟩=(v,⟨r,0⟩):=by
 cases b
 ·rw [h0 rfl];rfl
 ·exact num_enc v r hw
theorem optF_enc (b:Bool) (v:Bool) (r:List Nat) (h0:b=false→v=false):optF b ⟨eN b (bitI v) ++ r,0⟩=(v,⟨r,0⟩):=by
 cases b
 ·rw [h0 rfl];rfl
 ·exact flag_enc v r
theorem optD_enc (b:Bool) (d:List Nat) (r:List Nat) (hl:d.length≤120) (h0:b=false→d=[]):optD b ⟨eN b ((d.length:Nat):Int) ++ (d ++ r),0⟩=(d,⟨r,0⟩):=by
 cases b
 ·rw [h0 rfl];rfl
 ·exact data_enc d hl r
theorem selN_enc (b:Nat→Bool) (v:Nat→Int) (k:Nat):encsB (selN b v (k+1))=encsB (selN b v k) ++ eN (b k) (v k):=by
 simp only [selN,encsB_app]
 congr 1
 cases b k <;> simp [eN,encsB]
theorem fr_facts {f:Fr} (h:OkF f):(nbit f.k 0=false→f.id=0)∧(nbit f.k 1=false→f.a=0)∧(nbit f.k 2=false→f.off=0)∧(nbit f.k 3=false→f.b=0)∧(nbit f.k 4=false→f.fin=false)∧(nbit f.k 5=false→f.data=[])∧(nbit f.k 6=false→f.k≠2)∧(nbit f.k 6=true→f.k=2)∧(f.k=2→f.data=[]):=by
 have hid:=h.zid
 have ha:=h.za
 have hoff:=h.zoff
 have hb:=h.zb
 have hfin:=h.zfin
 have hdata:=h.zdata
 obtain ⟨h1,h2⟩:=h.k
 have hk:f.k=1∨f.k=2∨f.k=3∨f.k=4∨f.k=5∨f.k=6∨f.k=7∨f.k=8∨f.k=9∨f.k=10∨f.k=11∨f.k=12:=by omega
 clear h h1 h2
 rcases hk with e | e | e | e | e | e | e | e | e | e | e | e
 all_goals
  rw [e] at hid ha hoff hb hfin hdata
  rw [e]
  simp at hid ha hoff hb hfin hdata
  refine ⟨fun hx=>?_,fun hx=>?_,fun hx=>?_,fun hx=>?_,fun hx=>?_,fun hx=>?_,fun hx=>?_,fun hx=>?_,fun hx=>?_⟩
  all_goals first | assumption | (exact absurd hx (by decide)) | decide | rfl
def bare (f:Fr):Fr:=⟨f.k,f.id,f.off,f.a,f.b,0,f.fin,f.data,f.spans⟩
theorem frame_enc {f:Fr} (h:OkF f) (r:List Nat):frameR ⟨encF f ++ r,0⟩=(bare f,⟨r,0⟩):=by
 obtain ⟨f0,f1,f2,f3,f4,f5,f6,f7,f8⟩:=fr_facts h
 obtain ⟨n1,n2,n3,n4⟩:=h.num
 have hk:=wid_in (n:=f.k) (by have:=h.k;omega) (by have:=h.k;omega)
 have hdl:=h.data.1
 obtain ⟨F,hF⟩:∃ F,nbit f.k=F:=⟨_,rfl⟩
 rw [hF] at f0 f1 f2 f3 f4 f5 f6 f7
 have hE:encF f ++ r=encB f.k ++ (eN (F 0) f.id ++ (eN (F 1) f.a ++ (eN (F 2) f.off ++ (eN (F 3) f.b ++ (eN (F 4) (bitI f.fin) ++ (eN (F 5) ((f.data.length:Nat):Int) ++ (eN (F 6) ((f.spans.length / 2:Nat):Int) ++ (encsB (runN f.spans (f.spans.length / 2)) ++ (f.data ++ r))))))))):=by
  unfold encF nums
  rw [hF,encsB_app,show encsB (f.k :: selN F (numV f) 7)=encB f.k ++ encsB (selN F (numV f) 7) from rfl]
  have v0:numV f 0=f.id:=rfl
  have v1:numV f 1=f.a:=rfl
  have v2:numV f 2=f.off:=rfl
  have v3:numV f 3=f.b:=rfl
  have v4:numV f 4=bitI f.fin:=rfl
  have v5:numV f 5=(f.data.length:Int):=rfl
  have v6:numV f 6=((f.spans.length / 2:Nat):Int):=rfl
  have s0:encsB (selN F (numV f) 0)=[]:=rfl
  simp only [selN_enc,List.append_assoc,v0,v1,v2,v3,v4,v5,v6,s0,List.nil_append]
 have hr:=right_ok h
 have hrb:rightB (bare f)=true:=by
  have:rightB (bare f)=rightB f:=by simp only [rightB,bare]
  rw [this,hr]
 rw [hE]
 unfold frameR
 rw [num_enc _ _ hk]
 simp only
 rw [hF]
 unfold bodyR
 simp only
 rw [optN_enc _ _ _ n1 f0];simp only
 rw [optN_enc _ _ _ n3 f1];simp only
 rw [optN_enc _ _ _ n2 f2];simp only
 rw [optN_enc _ _ _ n4 f3];simp only
 rw [optF_enc _ _ _ f4];simp only
 by_cases h6:f.k=2
 ·have hd:=f8 h6
  have hF6:F 6=true:=by
   cases hc:F 6 with
   | true=>rfl
   | false=>exact absurd h6 (f6 hc)
  have hF5:F 5=false:=by rw [← hF,h6];rfl
  rcases h.zsp with ⟨_,m,hm1,hm8,hs⟩ | ⟨hne,_⟩
  ·rw [hF5,hF6,hd,sps_half hs]
   simp only [eN,List.nil_append,optD,optS]
   rw [spans_enc hs hm1 hm8]
   simp only
   have e:(⟨f.k,f.id,f.off,f.a,f.b,0,f.fin,[],f.spans⟩:Fr)=bare f:=by unfold bare;rw [hd]
   rw [e,hrb,need_ok _ _ _ rfl]
  ·exact absurd h6 hne
 ·have hF6:F 6=false:=by
   cases hc:F 6 with
   | true=>exact absurd (f7 hc) h6
   | false=>rfl
  rcases h.zsp with ⟨h2,_⟩ | ⟨_,hs⟩
  ·exact absurd h2 h6
  ·rw [hF6,hs]
   have e2:encsB (runN [] (([]:List Int).length / 2))=[]:=rfl
   rw [e2]
   simp only [eN,List.nil_append,optS]
   have:=optD_enc (F 5) f.data r hdl f5
   unfold eN at this
   rw [this]
   simp only
   have e:(⟨f.k,f.id,f.off,f.a,f.b,0,f.fin,f.data,[]⟩:Fr)=bare f:=by unfold bare;rw [hs]
   rw [e,hrb,need_ok _ _ _ rfl]
theorem encF_pos {f:Fr} (h:OkF f):0<(encF f).length:=by
 unfold encF nums
 have hk:=wid_in (n:=f.k) (by have:=h.k;omega) (by have:=h.k;omega)
 rw [encsB_app,show encsB (f.k :: selN (nbit f.k) (numV f) 7)=encB f.k ++ encsB (selN (nbit f.k) (numV f) 7) from rfl]
 simp only [List.length_append,encB_len]
 omega
theorem read_enc:∀ (fs:List Fr) (n:Nat),(∀ f ∈ fs,OkF f)→(layF fs).length≤n→readN n ⟨layF fs,0⟩=(fs.map bare,⟨[],0⟩)
 | [],n,_,_=>by cases n <;> rfl
 | f :: fs,n,h,hn=>by
   have hf:=h f (by simp)
   have hp:=encF_pos hf
   have e:layF (f :: fs)=encF f ++ layF fs:=rfl
   rw [e,List.length_append] at hn
   obtain ⟨n,rfl⟩:∃ m,n=m+1:=⟨n - 1,by omega⟩
   unfold readN
   rw [if_neg (by rw [e];simp only [List.length_append];omega),e,frame_enc hf]
   simp only [if_true]
   rw [read_enc fs n (fun g hg=>h g (by simp [hg])) (by omega)]
   rfl
end Go.Proofs.YtccljifichaieaaDoor
