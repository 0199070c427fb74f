/- Joined texts. Conditions: as each theorem lists them. -/
import Derived.Test.YtoahkffdoaphlaaJG1
import Derived.Deep.RegionHeld3
import Derived.Test.YtoahkffdoaphlaaJE1
set_option linter.unusedSimpArgs false
set_option linter.unusedVariables false
set_option maxRecDepth 100000
set_option maxHeartbeats 80000000
namespace Go.Proofs.Ytoahkffdoaphlaa
open Go Go.RowKit
theorem infoInt:(Try.prog.info? 3).map (fun i=>(i.zero,i.size,i.bytes))=some (some (.int .i64 0),1,8):=by kernel_rfl
def numV (f:Fr):Nat→Int:=seven f.id f.a f.off f.b (bitI f.fin) (f.data.length:Int) ((f.spans.length / 2:Nat):Int)
def nbit (k:Int) (j:Nat):Bool:=bits .and .i64 (nm k:Int) (2 ^ j) != 0
def selN (b:Nat→Bool) (v:Nat→Int):Nat→List Int
 | 0=>[]
 | k+1=>selN b v k ++ (if b k=true then [v k] else [])
theorem selN_yes {b:Nat→Bool} {v:Nat→Int} {k:Nat} (h:b k=true):selN b v (k+1)=selN b v k ++ [v k]:=by simp [selN,h]
theorem selN_no {b:Nat→Bool} {v:Nat→Int} {k:Nat} (h:b k=false):selN b v (k+1)=selN b v k:=by simp [selN,h]
/-- A run's numbers, as they are laid. -/
def runG (es:List Int) (k:Nat):Int:=if k=0 then es.getD 1 0 else es.getD (2 * (k - 1)) 0 - es.getD (2 * k+1) 0
def runN (es:List Int):Nat→List Int
 | 0=>[]
 | k+1=>runN es k ++ [runG es k,es.getD (2 * k+1) 0 - es.getD (2 * k) 0]
/-- What is laid of a frame, but for its bytes. -/
def nums (f:Fr):List Int:=(f.k :: selN (nbit f.k) (numV f) 7) ++ runN f.spans (f.spans.length / 2)
def NumW (w0 wr:World) (v:Value) (n:Nat) (L:List Int):Prop:=L.length=n∧wr.ownsRow w0.heap.size 3 1 v n (ints L)∧Below w0.heap.size w0 wr
def NumsP (f:Fr) (w:World) (e:Ending) (w':World):Prop:=∃ A n c,e=.returned (.slice A n c)∧(nums f).length=n∧n≤24∧w'.ownsRow w.heap.size 3 1 (.slice A n c) n (ints (nums f))∧Below w.heap.size w w'
theorem numbers_any (f:Fr) (A:Option Addr) (n0 c0:Nat) (A2:Option Addr) (n2 c2:Nat) (w:World) (hf:IsFr w w.heap.size f A n0 c0 A2 n2 c2) (hsp:SpsOk f.spans n2) (hm:n2≤8) (hn0:n0≤140737488355328) :
  Calls Try.prog 110 #[frA f A n0 c0 A2 n2 c2] w (NumsP f w):=by
 obtain ⟨k,id,off,a,b,note,fin,data,es⟩:=f
 obtain ⟨hdl,_,_,hsl,hc2,hrd⟩:=hf
 simp only at hdl hsl hrd hsp
 have hs2:es.length / 2=n2:=by omega
 have HSP:=Lib.hid hsp
 have HRD:=Lib.hid hrd
 have hci:(n2:Int)≤(c2:Int):=by omega
 have hni:(n2:Int)≤8:=by omega
 obtain ⟨N,hN⟩:∃ x,Hid ((nm k:Int)=x):=⟨_,rfl⟩
 obtain ⟨ck,hck⟩:∃ x,Hid (kn k=x):=⟨_,rfl⟩
 have HNA:Hid (∀ W,Calls Try.prog 118 #[.int .i64 k] W fun e w'=>e=.returned (.tuple #[.int .i64 N,.bool ck])∧W=w'):=fun W=>by have:=names_any k W;rw [hN.out,hck.out] at this;exact this
 obtain ⟨fi,hfi⟩:∃ x,Hid (bitI fin=x):=⟨_,rfl⟩
 have HBT:Hid (∀ W,Calls Try.prog 123 #[.bool fin] W fun e w'=>e=.returned (.int .i64 fi)∧w'=W):=fun W=>by have:=bit_any fin W;rw [hfi.out] at this;exact this.mono fun _ _ h=>⟨h.1,h.2.symm⟩
 obtain ⟨V,hV⟩:∃ V,Hid (numV ⟨k,id,off,a,b,note,fin,data,es⟩=V):=⟨_,rfl⟩
 have HV:Hid (V=seven id a off b fi (n0:Int) (n2:Int)):=by rw [← hV.out];unfold numV;simp only;rw [hdl,hs2,hfi.out];exact rfl
 obtain ⟨F,hF⟩:∃ F,Hid (nbit k=F):=⟨_,rfl⟩
 have HNU:Hid (nums ⟨k,id,off,a,b,note,fin,data,es⟩=(k :: selN F V 7) ++ runN es n2):=by show _=_;unfold nums;simp only;rw [hV.out,hF.out,hs2]
 obtain ⟨b0,h0⟩:∃ x,(bits .and .i64 N 1 != 0)=x:=⟨_,rfl⟩
 obtain ⟨b1,h1⟩:∃ x,(bits .and .i64 N 2 != 0)=x:=⟨_,rfl⟩
 obtain ⟨b2,h2⟩:∃ x,(bits .and .i64 N 4 != 0)=x:=⟨_,rfl⟩
 obtain ⟨b3,h3⟩:∃ x,(bits .and .i64 N 8 != 0)=x:=⟨_,rfl⟩
 obtain ⟨b4,h4⟩:∃ x,(bits .and .i64 N 16 != 0)=x:=⟨_,rfl⟩
 obtain ⟨b5,h5⟩:∃ x,(bits .and .i64 N 32 != 0)=x:=⟨_,rfl⟩
 obtain ⟨b6,h6⟩:∃ x,(bits .and .i64 N 64 != 0)=x:=⟨_,rfl⟩
 have HF:Hid (F 0=b0∧F 1=b1∧F 2=b2∧F 3=b3∧F 4=b4∧F 5=b5∧F 6=b6):=by
  rw [← hF.out]
  unfold nbit
  rw [hN.out]
  exact ⟨h0,h1,h2,h3,h4,h5,h6⟩
 have i0:∀ w,(Instr.index 135 (.agg #[.int .i64 id,.int .i64 a,.int .i64 off,.int .i64 b,.int .i64 fi,.int .i64 (n0:Int),.int .i64 (n2:Int)]) (.int .i64 0)).run Try.prog w=.ok (.int .i64 id) w:=fun _=>by kernel_rfl
 have i1:∀ w,(Instr.index 135 (.agg #[.int .i64 id,.int .i64 a,.int .i64 off,.int .i64 b,.int .i64 fi,.int .i64 (n0:Int),.int .i64 (n2:Int)]) (.int .i64 1)).run Try.prog w=.ok (.int .i64 a) w:=fun _=>by kernel_rfl
 have i2:∀ w,(Instr.index 135 (.agg #[.int .i64 id,.int .i64 a,.int .i64 off,.int .i64 b,.int .i64 fi,.int .i64 (n0:Int),.int .i64 (n2:Int)]) (.int .i64 2)).run Try.prog w=.ok (.int .i64 off) w:=fun _=>by kernel_rfl
 have i3:∀ w,(Instr.index 135 (.agg #[.int .i64 id,.int .i64 a,.int .i64 off,.int .i64 b,.int .i64 fi,.int .i64 (n0:Int),.int .i64 (n2:Int)]) (.int .i64 3)).run Try.prog w=.ok (.int .i64 b) w:=fun _=>by kernel_rfl
 have i4:∀ w,(Instr.index 135 (.agg #[.int .i64 id,.int .i64 a,.int .i64 off,.int .i64 b,.int .i64 fi,.int .i64 (n0:Int),.int .i64 (n2:Int)]) (.int .i64 4)).run Try.prog w=.ok (.int .i64 fi) w:=fun _=>by kernel_rfl
 have i5:∀ w,(Instr.index 135 (.agg #[.int .i64 id,.int .i64 a,.int .i64 off,.int .i64 b,.int .i64 fi,.int .i64 (n0:Int),.int .i64 (n2:Int)]) (.int .i64 5)).run Try.prog w=.ok (.int .i64 (n0:Int)) w:=fun _=>by kernel_rfl
 have i6:∀ w,(Instr.index 135 (.agg #[.int .i64 id,.int .i64 a,.int .i64 off,.int .i64 b,.int .i64 fi,.int .i64 (n0:Int),.int .i64 (n2:Int)]) (.int .i64 6)).run Try.prog w=.ok (.int .i64 (n2:Int)) w:=fun _=>by kernel_rfl
 obtain ⟨iI,hi,hz0,hz1,hz2⟩:=info_parts infoInt
 have HI:=Lib.hid (And.intro hi (And.intro hz0 (And.intro hz1 hz2)))
 clear hi hz0 hz1 hz2 hsp hrd hsl hdl hs2
 unfold frA
 go_enter Try.func110,Try.ntmps110
 go_wp2_with fail
 obtain ⟨w0,hw0⟩:∃ w0,Hid (w.alloc (.cells #[.int .i64 k,.int .i64 id,.int .i64 off,.int .i64 a,.int .i64 b,.int .i64 note,.bool fin,.slice A n0 c0,.slice A2 n2 c2] 54)=w0):=⟨_,rfl⟩
 obtain ⟨g,hg⟩:∃ g,Hid (w.heap.size=g):=⟨_,rfl⟩
 have H0:Hid (w0.heap.size=g+1∧Below w.heap.size w w0):=by rw [← hw0.out,← hg.out];exact ⟨by simp,(Below.refl _ _).alloc (Nat.le_refl _) _⟩
 have HC:Hid (∀ j,w0.cell? ⟨g,j,none⟩=(w.alloc (.cells #[.int .i64 k,.int .i64 id,.int .i64 off,.int .i64 a,.int .i64 b,.int .i64 note,.bool fin,.slice A n0 c0,.slice A2 n2 c2] 54)).cell? ⟨w.heap.size,j,none⟩):=by rw [← hw0.out,← hg.out];exact fun _=>rfl
 have B0:w0.cell? ⟨g,0,none⟩=some (.int .i64 k):=by rw [HC.out];simp [go_sem]
 have B1:w0.cell? ⟨g,1,none⟩=some (.int .i64 id):=by rw [HC.out];simp [go_sem]
 have B2:w0.cell? ⟨g,2,none⟩=some (.int .i64 off):=by rw [HC.out];simp [go_sem]
 have B3:w0.cell? ⟨g,3,none⟩=some (.int .i64 a):=by rw [HC.out];simp [go_sem]
 have B4:w0.cell? ⟨g,4,none⟩=some (.int .i64 b):=by rw [HC.out];simp [go_sem]
 have B5:w0.cell? ⟨g,5,none⟩=some (.int .i64 note):=by rw [HC.out];simp [go_sem]
 have B6:w0.cell? ⟨g,6,none⟩=some (.bool fin):=by rw [HC.out];simp [go_sem]
 have B7:w0.cell? ⟨g,7,none⟩=some (.slice A n0 c0):=by rw [HC.out];simp [go_sem]
 have B8:w0.cell? ⟨g,8,none⟩=some (.slice A2 n2 c2):=by rw [HC.out];simp [go_sem]
 have hgl:g<w0.heap.size:=by have:=H0.out.1;omega
 have hrdw:Rd w0 w.heap.size A2 (n2 * 2) (ints es):=HRD.out.below H0.out.2 (Nat.le_refl _)
 have HRW:=Lib.hid hrdw
 rw [hw0.out,hg.out]
 clear hrdw HRD
 refine (HNA.out _).mono ?_
 rintro e w' ⟨rfl,rfl⟩
 go_wp2_with fail
 go_quiet ((go_at_call 123;exact Calls.quiet_of_same (HBT.out _)))
 go_wp2_with fail
 go_loopw [5,37] (fun v i wr=>∃ (j n:Nat) (L:List Int),j≤7∧n≤j+1∧i=.int .i64 j∧(∃ A' c',v=.slice A' n c')∧Hid (L=k :: selN F V j∧NumW w0 wr v n L)) (fun _ i _=>7 - (intOf i).toNat)
 case atStart =>
  refine ⟨0,1,[k],by omega,by omega,rfl,⟨_,_,rfl⟩,rfl,rfl,?_,?_⟩
  ·exact own_new w0 #[.int .i64 k] 3 1 1 _ _ rfl rfl (by unfold maxLen;omega) (Nat.le_refl _)
  ·exact ((Below.refl _ _).alloc (Nat.le_refl _) _).trans ⟨rfl,rfl,rfl,Nat.le_refl _,fun _ _=>rfl⟩
 case round =>
  obtain ⟨j,n,L,hj,hnj,rfl,⟨A',c',rfl⟩,HJ⟩:=hrel
  have hw8:n≤8:=by omega
  have HBr:Hid (Below w0.heap.size w0 wr):=HJ.out.2.2.2
  have hb2:Hid (∀ o:Obj,w0.heap.size≤(wr.alloc o).heap.size):=fun o=>by have:=HBr.out.size;simp only [World.size_alloc];omega
  have HOW:Hid (wr.ownsRow w0.heap.size 3 1 (.slice A' n c') n (ints L)):=HJ.out.2.2.1
  have hjc:j=0∨j=1∨j=2∨j=3∨j=4∨j=5∨j=6∨j=7:=by omega
  clear hj B0 B1 B2 B3 B4 B5 B6 B7
  rcases hjc with rfl | rfl | rfl | rfl | rfl | rfl | rfl | rfl
  ·cases b0
   ·have HN:Hid (L=k :: selN F V 1∧NumW w0 wr (.slice A' n c') n L):=⟨by rw [selN_no HF.out.1];exact HJ.out.1,HJ.out.2⟩
    go_wp2_with fail
    go_roundw
    case rel=>exact ⟨1,n,L,by omega,by omega,rfl,⟨_,_,rfl⟩,HN⟩
    case measure=>decide
   ·go_wp2_with (at_builtin;refine wpList_app _ rfl (.tmp 46) (.tmp 48) 41 rfl w0.heap.size 3 iI (.int .i64 0) 1 8 Try.underlying41 HI.out.1 HI.out.2.1 HI.out.2.2.1 HI.out.2.2.2 rfl (by decide) (.slice A' n c') n (ints L) rfl (HOW.out.alloc _) (wr.heap.size+1) (some ⟨wr.heap.size,0,none⟩) 1 1 (ints [id]) rfl (rd_new _ _ _ _ _ _ _ rfl (by omega) rfl rfl) (ones_ints _) (by unfold maxLen;omega) (by omega) (hb2.out _) ?_)
    intro v1 w1 hown1 hgrow1
    obtain ⟨A1,c1,e1,_⟩:=own_form hown1
    subst e1
    have HN:Hid (L ++ [id]=k :: selN F V 1∧NumW w0 w1 (.slice A1 (n+1) c1) (n+1) (L ++ [id])):=⟨by rw [selN_yes HF.out.1,HJ.out.1,HV.out];rfl,by rw [List.length_append,HJ.out.2.1];rfl,by rw [ints_app];exact hown1,(HBr.out.alloc HBr.out.size _).grown hgrow1 (hb2.out _) (fun g hg=>(HOW.out.lt g hg).1)⟩
    clear hown1 hgrow1
    go_wp2_with fail
    go_roundw
    case rel=>exact ⟨1,n+1,_,by omega,by omega,rfl,⟨_,_,rfl⟩,HN⟩
    case measure=>decide
  ·cases b1
   ·have HN:Hid (L=k :: selN F V 2∧NumW w0 wr (.slice A' n c') n L):=⟨by rw [selN_no HF.out.2.1];exact HJ.out.1,HJ.out.2⟩
    go_wp2_with fail
    go_roundw
    case rel=>exact ⟨2,n,L,by omega,by omega,rfl,⟨_,_,rfl⟩,HN⟩
    case measure=>decide
   ·go_wp2_with (at_builtin;refine wpList_app _ rfl (.tmp 46) (.tmp 48) 41 rfl w0.heap.size 3 iI (.int .i64 0) 1 8 Try.underlying41 HI.out.1 HI.out.2.1 HI.out.2.2.1 HI.out.2.2.2 rfl (by decide) (.slice A' n c') n (ints L) rfl (HOW.out.alloc _) (wr.heap.size+1) (some ⟨wr.heap.size,0,none⟩) 1 1 (ints [a]) rfl (rd_new _ _ _ _ _ _ _ rfl (by omega) rfl rfl) (ones_ints _) (by unfold maxLen;omega) (by omega) (hb2.out _) ?_)
    intro v1 w1 hown1 hgrow1
    obtain ⟨A1,c1,e1,_⟩:=own_form hown1
    subst e1
    have HN:Hid (L ++ [a]=k :: selN F V 2∧NumW w0 w1 (.slice A1 (n+1) c1) (n+1) (L ++ [a])):=⟨by rw [selN_yes HF.out.2.1,HJ.out.1,HV.out];rfl,by rw [List.length_append,HJ.out.2.1];rfl,by rw [ints_app];exact hown1,(HBr.out.alloc HBr.out.size _).grown hgrow1 (hb2.out _) (fun g hg=>(HOW.out.lt g hg).1)⟩
    clear hown1 hgrow1
    go_wp2_with fail
    go_roundw
    case rel=>exact ⟨2,n+1,_,by omega,by omega,rfl,⟨_,_,rfl⟩,HN⟩
    case measure=>decide
  ·cases b2
   ·have HN:Hid (L=k :: selN F V 3∧NumW w0 wr (.slice A' n c') n L):=⟨by rw [selN_no HF.out.2.2.1];exact HJ.out.1,HJ.out.2⟩
    go_wp2_with fail
    go_roundw
    case rel=>exact ⟨3,n,L,by omega,by omega,rfl,⟨_,_,rfl⟩,HN⟩
    case measure=>decide
   ·go_wp2_with (at_builtin;refine wpList_app _ rfl (.tmp 46) (.tmp 48) 41 rfl w0.heap.size 3 iI (.int .i64 0) 1 8 Try.underlying41 HI.out.1 HI.out.2.1 HI.out.2.2.1 HI.out.2.2.2 rfl (by decide) (.slice A' n c') n (ints L) rfl (HOW.out.alloc _) (wr.heap.size+1) (some ⟨wr.heap.size,0,none⟩) 1 1 (ints [off]) rfl (rd_new _ _ _ _ _ _ _ rfl (by omega) rfl rfl) (ones_ints _) (by unfold maxLen;omega) (by omega) (hb2.out _) ?_)
    intro v1 w1 hown1 hgrow1
    obtain ⟨A1,c1,e1,_⟩:=own_form hown1
    subst e1
    have HN:Hid (L ++ [off]=k :: selN F V 3∧NumW w0 w1 (.slice A1 (n+1) c1) (n+1) (L ++ [off])):=⟨by rw [selN_yes HF.out.2.2.1,HJ.out.1,HV.out];rfl,by rw [List.length_append,HJ.out.2.1];rfl,by rw [ints_app];exact hown1,(HBr.out.alloc HBr.out.size _).grown hgrow1 (hb2.out _) (fun g hg=>(HOW.out.lt g hg).1)⟩
    clear hown1 hgrow1
    go_wp2_with fail
    go_roundw
    case rel=>exact ⟨3,n+1,_,by omega,by omega,rfl,⟨_,_,rfl⟩,HN⟩
    case measure=>decide
  ·cases b3
   ·have HN:Hid (L=k :: selN F V 4∧NumW w0 wr (.slice A' n c') n L):=⟨by rw [selN_no HF.out.2.2.2.1];exact HJ.out.1,HJ.out.2⟩
    go_wp2_with fail
    go_roundw
    case rel=>exact ⟨4,n,L,by omega,by omega,rfl,⟨_,_,rfl⟩,HN⟩
    case measure=>decide
   ·go_wp2_with (at_builtin;refine wpList_app _ rfl (.tmp 46) (.tmp 48) 41 rfl w0.heap.size 3 iI (.int .i64 0) 1 8 Try.underlying41 HI.out.1 HI.out.2.1 HI.out.2.2.1 HI.out.2.2.2 rfl (by decide) (.slice A' n c') n (ints L) rfl (HOW.out.alloc _) (wr.heap.size+1) (some ⟨wr.heap.size,0,none⟩) 1 1 (ints [b]) rfl (rd_new _ _ _ _ _ _ _ rfl (by omega) rfl rfl) (ones_ints _) (by unfold maxLen;omega) (by omega) (hb2.out _) ?_)
    intro v1 w1 hown1 hgrow1
    obtain ⟨A1,c1,e1,_⟩:=own_form hown1
    subst e1
    have HN:Hid (L ++ [b]=k :: selN F V 4∧NumW w0 w1 (.slice A1 (n+1) c1) (n+1) (L ++ [b])):=⟨by rw [selN_yes HF.out.2.2.2.1,HJ.out.1,HV.out];rfl,by rw [List.length_append,HJ.out.2.1];rfl,by rw [ints_app];exact hown1,(HBr.out.alloc HBr.out.size _).grown hgrow1 (hb2.out _) (fun g hg=>(HOW.out.lt g hg).1)⟩
    clear hown1 hgrow1
    go_wp2_with fail
    go_roundw
    case rel=>exact ⟨4,n+1,_,by omega,by omega,rfl,⟨_,_,rfl⟩,HN⟩
    case measure=>decide
  ·cases b4
   ·have HN:Hid (L=k :: selN F V 5∧NumW w0 wr (.slice A' n c') n L):=⟨by rw [selN_no HF.out.2.2.2.2.1];exact HJ.out.1,HJ.out.2⟩
    go_wp2_with fail
    go_roundw
    case rel=>exact ⟨5,n,L,by omega,by omega,rfl,⟨_,_,rfl⟩,HN⟩
    case measure=>decide
   ·go_wp2_with (at_builtin;refine wpList_app _ rfl (.tmp 46) (.tmp 48) 41 rfl w0.heap.size 3 iI (.int .i64 0) 1 8 Try.underlying41 HI.out.1 HI.out.2.1 HI.out.2.2.1 HI.out.2.2.2 rfl (by decide) (.slice A' n c') n (ints L) rfl (HOW.out.alloc _) (wr.heap.size+1) (some ⟨wr.heap.size,0,none⟩) 1 1 (ints [fi]) rfl (rd_new _ _ _ _ _ _ _ rfl (by omega) rfl rfl) (ones_ints _) (by unfold maxLen;omega) (by omega) (hb2.out _) ?_)
    intro v1 w1 hown1 hgrow1
    obtain ⟨A1,c1,e1,_⟩:=own_form hown1
    subst e1
    have HN:Hid (L ++ [fi]=k :: selN F V 5∧NumW w0 w1 (.slice A1 (n+1) c1) (n+1) (L ++ [fi])):=⟨by rw [selN_yes HF.out.2.2.2.2.1,HJ.out.1,HV.out];rfl,by rw [List.length_append,HJ.out.2.1];rfl,by rw [ints_app];exact hown1,(HBr.out.alloc HBr.out.size _).grown hgrow1 (hb2.out _) (fun g hg=>(HOW.out.lt g hg).1)⟩
    clear hown1 hgrow1
    go_wp2_with fail
    go_roundw
    case rel=>exact ⟨5,n+1,_,by omega,by omega,rfl,⟨_,_,rfl⟩,HN⟩
    case measure=>decide
  ·cases b5
   ·have HN:Hid (L=k :: selN F V 6∧NumW w0 wr (.slice A' n c') n L):=⟨by rw [selN_no HF.out.2.2.2.2.2.1];exact HJ.out.1,HJ.out.2⟩
    go_wp2_with fail
    go_roundw
    case rel=>exact ⟨6,n,L,by omega,by omega,rfl,⟨_,_,rfl⟩,HN⟩
    case measure=>decide
   ·go_wp2_with (at_builtin;refine wpList_app _ rfl (.tmp 46) (.tmp 48) 41 rfl w0.heap.size 3 iI (.int .i64 0) 1 8 Try.underlying41 HI.out.1 HI.out.2.1 HI.out.2.2.1 HI.out.2.2.2 rfl (by decide) (.slice A' n c') n (ints L) rfl (HOW.out.alloc _) (wr.heap.size+1) (some ⟨wr.heap.size,0,none⟩) 1 1 (ints [(n0:Int)]) rfl (rd_new _ _ _ _ _ _ _ rfl (by omega) rfl rfl) (ones_ints _) (by unfold maxLen;omega) (by omega) (hb2.out _) ?_)
    intro v1 w1 hown1 hgrow1
    obtain ⟨A1,c1,e1,_⟩:=own_form hown1
    subst e1
    have HN:Hid (L ++ [(n0:Int)]=k :: selN F V 6∧NumW w0 w1 (.slice A1 (n+1) c1) (n+1) (L ++ [(n0:Int)])):=⟨by rw [selN_yes HF.out.2.2.2.2.2.1,HJ.out.1,HV.out];rfl,by rw [List.length_append,HJ.out.2.1];rfl,by rw [ints_app];exact hown1,(HBr.out.alloc HBr.out.size _).grown hgrow1 (hb2.out _) (fun g hg=>(HOW.out.lt g hg).1)⟩
    clear hown1 hgrow1
    go_wp2_with fail
    go_roundw
    case rel=>exact ⟨6,n+1,_,by omega,by omega,rfl,⟨_,_,rfl⟩,HN⟩
    case measure=>decide
  ·cases b6
   ·have HN:Hid (L=k :: selN F V 7∧NumW w0 wr (.slice A' n c') n L):=⟨by rw [selN_no HF.out.2.2.2.2.2.2];exact HJ.out.1,HJ.out.2⟩
    go_wp2_with fail
    go_roundw
    case rel=>exact ⟨7,n,L,by omega,by omega,rfl,⟨_,_,rfl⟩,HN⟩
    case measure=>decide
   ·go_wp2_with (at_builtin;refine wpList_app _ rfl (.tmp 46) (.tmp 48) 41 rfl w0.heap.size 3 iI (.int .i64 0) 1 8 Try.underlying41 HI.out.1 HI.out.2.1 HI.out.2.2.1 HI.out.2.2.2 rfl (by decide) (.slice A' n c') n (ints L) rfl (HOW.out.alloc _) (wr.heap.size+1) (some ⟨wr.heap.size,0,none⟩) 1 1 (ints [(n2:Int)]) rfl (rd_new _ _ _ _ _ _ _ rfl (by omega) rfl rfl) (ones_ints _) (by unfold maxLen;omega) (by omega) (hb2.out _) ?_)
    intro v1 w1 hown1 hgrow1
    obtain ⟨A1,c1,e1,_⟩:=own_form hown1
    subst e1
    have HN:Hid (L ++ [(n2:Int)]=k :: selN F V 7∧NumW w0 w1 (.slice A1 (n+1) c1) (n+1) (L ++ [(n2:Int)])):=⟨by rw [selN_yes HF.out.2.2.2.2.2.2,HJ.out.1,HV.out];rfl,by rw [List.length_append,HJ.out.2.1];rfl,by rw [ints_app];exact hown1,(HBr.out.alloc HBr.out.size _).grown hgrow1 (hb2.out _) (fun g hg=>(HOW.out.lt g hg).1)⟩
    clear hown1 hgrow1
    go_wp2_with fail
    go_roundw
    case rel=>exact ⟨7,n+1,_,by omega,by omega,rfl,⟨_,_,rfl⟩,HN⟩
    case measure=>decide
  ·have hB8:wr.cell? ⟨g,8,none⟩=some (.slice A2 n2 c2):=(HBr.out.cell (p:=⟨g,8,none⟩) hgl).trans B8
   obtain ⟨P0,hP0⟩:∃ P,Hid (k :: selN F V 7=P):=⟨_,Lib.hid rfl⟩
   have HJ7:Hid (L=P0∧NumW w0 wr (.slice A' n c') n L):=by rw [← hP0.out];exact HJ.out
   rw [hP0.out] at HNU
   rw [show ((7:Nat):Int)=7 from rfl]
   clear i0 i1 i2 i3 i4 i5 i6 h0 h1 h2 h3 h4 h5 h6 HJ
   go_wp2_with fail
   clear hB8
   obtain ⟨wq,hwq⟩:∃ wq:World,wq=wr:=⟨_,rfl⟩
   subst hwq
   go_loopw [5,54] (fun v i wx=>∃ (q n:Nat) (L:List Int),q≤n2∧n≤8+2 * q∧i=.int .i64 q∧(∃ A' c',v=.slice A' n c')∧Hid (L=P0 ++ runN es q∧NumW w0 wx v n L)) (fun _ i _=>n2 - (intOf i).toNat)
   case atStart=>exact ⟨0,n,L,by omega,by omega,rfl,⟨_,_,rfl⟩,by rw [HJ7.out.1];simp [runN],HJ7.out.2⟩
   case round =>
    clear HBr hb2 HOW HJ7
    obtain ⟨q,n,L,hq,hnq,rfl,⟨A',c',rfl⟩,HJ⟩:=hrel
    have hn24:n≤24:=by omega
    have HBr:Hid (Below w0.heap.size w0 wr):=HJ.out.2.2.2
    have HOW:Hid (wr.ownsRow w0.heap.size 3 1 (.slice A' n c') n (ints L)):=HJ.out.2.2.1
    by_cases hlt:q<n2
    ·have hlti:(q:Int)<(n2:Int):=by omega
     have hn22:n≤22:=by omega
     obtain ⟨bb,boff,hA,hbn,hcs⟩:=HRW.out.2 (by omega)
     subst hA
     have hl1:2 * q+1<es.length:=by have:=HSP.out.1;omega
     obtain ⟨s0,s1,s2,s3⟩:=HSP.out.2 q hlt
     obtain ⟨x,hx⟩:∃ x,Hid (es.getD (2 * q) 0=x):=⟨_,rfl⟩
     obtain ⟨y,hy⟩:∃ y,Hid (es.getD (2 * q+1) 0=y):=⟨_,rfl⟩
     obtain ⟨z,hz⟩:∃ z,Hid (es.getD (2 * (q - 1)) 0=z):=⟨_,rfl⟩
     have hzm:0<q→z≤4611686018427387903:=fun h0=>by obtain ⟨_,t1,t2,_⟩:=HSP.out.2 (q - 1) (by omega);rw [hz.out] at t1;omega
     rw [hx.out] at s0 s1
     rw [hy.out] at s1 s2 s3
     rw [hz.out] at s3
     have hb0:bb<w0.heap.size:=by have:=H0.out.2.size;omega
     have hcx:wr.cell? ⟨bb,boff+q * 2,none⟩=some (.int .i64 x):=by
      rw [HBr.out.cell (p:=⟨bb,boff+q * 2,none⟩) hb0,show boff+q * 2=boff+2 * q by omega,hcs (2 * q) _ (ints_get es _ (by omega)),hx.out]
     have hcy:wr.cell? ⟨bb,boff+q * 2+1,none⟩=some (.int .i64 y):=by
      rw [HBr.out.cell (p:=⟨bb,boff+q * 2+1,none⟩) hb0,show boff+q * 2+1=boff+(2 * q+1) by omega,hcs (2 * q+1) _ (ints_get es _ (by omega)),hy.out]
     have HCZ:Hid (0<q→w0.cell? ⟨bb,boff+(q - 1) * 2,none⟩=some (.int .i64 z)):=fun h0=>by
      rw [show boff+(q - 1) * 2=boff+2 * (q - 1) by omega,hcs (2 * (q - 1)) _ (ints_get es _ (by omega)),hz.out]
     have hyx:Hid (runN es (q+1)=runN es q ++ [runG es q] ++ [y - x]):=by show runN es q ++ _=_;rw [hx.out,hy.out];simp
     clear hcs
     have HX:Hid (Below w0.heap.size w0 (wr.alloc (.cells #[.int .i64 x,.int .i64 y] 88))):=HBr.out.alloc HBr.out.size _
     have HOa:Hid ((wr.alloc (.cells #[.int .i64 x,.int .i64 y] 88)).ownsRow w0.heap.size 3 1 (.slice A' n c') n (ints L)):=HOW.out.alloc _
     have hba:Hid (∀ o:Obj,w0.heap.size≤((wr.alloc (.cells #[.int .i64 x,.int .i64 y] 88)).alloc o).heap.size):=fun o=>by have:=HX.out.size;simp only [World.size_alloc] at *;omega
     have hne:Hid ((Value.slice A' n c').ownBlock≠some wr.heap.size):=fun e=>by have:=(HOW.out.lt _ e).2;omega
     have HPUSH:Hid (∀ (v:Int) (A1:Option Addr) (c1:Nat) (w1 wB:World),wB.heap.size=wr.heap.size+1→Below (wr.heap.size+1) (wr.alloc (.cells #[.int .i64 x,.int .i64 y] 88)) wB→Below w0.heap.size w0 wB→v=runG es q→w1.ownsRow w0.heap.size 3 1 (.slice A1 (n+1) c1) (n+1) (ints L ++ ints [v])→∀ o:Obj,(wB.alloc o).grownBy w1 (Value.slice A' n c').ownBlock→NumW w0 w1 (.slice A1 (n+1) c1) (n+1) (L ++ [v])∧w1.heap[wr.heap.size]?=some (.cells #[.int .i64 x,.int .i64 y] 88 (0,0))∧L ++ [v]=P0 ++ runN es q ++ [runG es q]∧wr.heap.size+1<w1.heap.size):=fun v A1 c1 w1 wB hs hB hB0 hv ho o hg=>by
      have hbo:w0.heap.size≤(wB.alloc o).heap.size:=by have:=HBr.out.size;simp only [World.size_alloc];omega
      refine ⟨⟨by rw [List.length_append,HJ.out.2.1];rfl,by rw [ints_app];exact ho,(hB0.alloc hB0.size _).grown hg hbo (fun g hg=>(HOW.out.lt g hg).1)⟩,?_,by rw [HJ.out.1,hv],?_⟩
      ·rw [hg.block wr.heap.size (by simp only [World.size_alloc];omega) (fun e=>hne.out e.symm)]
       refine (((Below.refl _ _).alloc (Nat.le_refl _) _).block wr.heap.size (by omega)).trans ?_
       rw [hB.block wr.heap.size (by omega)]
       exact heap_alloc_new _ _
      ·have:=hg.size;simp only [World.size_alloc] at this;omega
     have HEND:Hid (∀ (v:Int) (A1:Option Addr) (c1:Nat) (w1:World) (A2':Option Addr) (c2':Nat) (w2:World),NumW w0 w1 (.slice A1 (n+1) c1) (n+1) (L ++ [v])→L ++ [v]=P0 ++ runN es q ++ [runG es q]→w2.ownsRow w0.heap.size 3 1 (.slice A2' (n+1+1) c2') (n+1+1) (ints (L ++ [v]) ++ ints [y - x])→∀ o:Obj,(w1.alloc o).grownBy w2 (Value.slice A1 (n+1) c1).ownBlock→(L ++ [v] ++ [y - x]=P0 ++ runN es (q+1)∧NumW w0 w2 (.slice A2' (n+1+1) c2') (n+1+1) (L ++ [v] ++ [y - x]))):=fun v A1 c1 w1 A2' c2' w2 hN hL ho o hg=>by
      have hbo:w0.heap.size≤(w1.alloc o).heap.size:=by have:=hN.2.2.size;simp only [World.size_alloc];omega
      refine ⟨by rw [hyx.out,hL];simp,by rw [List.length_append,hN.1];rfl,by rw [ints_app (L ++ [v])];exact ho,(hN.2.2.alloc hN.2.2.size _).grown hg hbo (fun g hg=>(hN.2.1.lt g hg).1)⟩
     by_cases h0:q=0
     ·have hk0:((q:Int) == 0)=true:=by rw [h0];rfl
      have HG:Hid (y=runG es q):=by show _=_;rw [← hy.out,h0];rfl
      clear h0
      go_wp2_with (at_builtin;refine wpList_app _ rfl (.tmp 61) (.tmp 64) 41 rfl w0.heap.size 3 iI (.int .i64 0) 1 8 Try.underlying41 HI.out.1 HI.out.2.1 HI.out.2.2.1 HI.out.2.2.2 rfl (by decide) (.slice A' n c') n (ints L) rfl (HOa.out.alloc _) ((wr.alloc (.cells #[.int .i64 x,.int .i64 y] 88)).heap.size+1) (some ⟨(wr.alloc (.cells #[.int .i64 x,.int .i64 y] 88)).heap.size,0,none⟩) 1 1 (ints [y]) (by simp [Act.eval]) (rd_new _ _ _ _ _ _ _ rfl (by omega) rfl rfl) (ones_ints _) (by unfold maxLen;omega) (by omega) (hba.out _) ?_)
      intro v1 w1 hown1 hgrow1
      obtain ⟨A1,c1,e1,_⟩:=own_form hown1
      subst e1
      have HP:=Lib.hid (HPUSH.out y A1 c1 w1 (wr.alloc (.cells #[.int .i64 x,.int .i64 y] 88)) (by simp) (Below.refl _ _) HX.out HG.out hown1 _ hgrow1)
      obtain ⟨v,hv⟩:∃ v,Hid (y=v):=⟨_,rfl⟩
      clear hown1 hgrow1
      have HO1:Hid (w1.ownsRow w0.heap.size 3 1 (.slice A1 (n+1) c1) (n+1) (ints (L ++ [y]))):=HP.out.1.2.1
      obtain ⟨hx1,hy1⟩:w1.cell? ⟨wr.heap.size,0,none⟩=some (.int .i64 x)∧w1.cell? ⟨wr.heap.size,1,none⟩=some (.int .i64 y):=⟨by rw [Am.cell_of w1 _ 0 _ _ (0,0) HP.out.2.1];rfl,by rw [Am.cell_of w1 _ 1 _ _ (0,0) HP.out.2.1];rfl⟩
      have hb1:Hid (w0.heap.size≤(w1.alloc (.cells #[.int .i64 (y - x)] 3)).heap.size):=by have:=HP.out.1.2.2.size;show _≤_;simp only [World.size_alloc];omega
      go_wp2_with (at_builtin;refine wpList_app _ rfl (.tmp 79) (.tmp 85) 41 rfl w0.heap.size 3 iI (.int .i64 0) 1 8 Try.underlying41 HI.out.1 HI.out.2.1 HI.out.2.2.1 HI.out.2.2.2 rfl (by decide) (.slice A1 (n+1) c1) (n+1) (ints (L ++ [y])) rfl (HO1.out.alloc _) (w1.heap.size+1) (some ⟨w1.heap.size,0,none⟩) 1 1 (ints [y - x]) (by simp [Act.eval]) (rd_new _ _ _ _ _ _ _ rfl (by omega) rfl rfl) (ones_ints _) (by unfold maxLen;omega) (by omega) hb1.out ?_)
      intro v2 w2 hown2 hgrow2
      obtain ⟨A3,c3,e3,_⟩:=own_form hown2
      subst e3
      have HN:=Lib.hid (HEND.out y A1 c1 w1 A3 c3 w2 HP.out.1 HP.out.2.2.1 hown2 _ hgrow2)
      clear hown2 hgrow2
      go_wp2_with fail
      go_roundw
      case rel=>exact ⟨q+1,n+1+1,_,by omega,by omega,by go_num,⟨_,_,rfl⟩,HN⟩
      case measure=>simp [intOf];omega
     ·have hk0:((q:Int) == 0)=false:=by simp;omega
      have hq0:0<q:=by omega
      have hcz0:=HCZ.out hq0
      have s3':=s3 hq0
      have hzm':=hzm hq0
      have HG:Hid (z - y=runG es q):=by show _=_;unfold runG;rw [if_neg h0,hz.out,hy.out]
      clear h0 s3 hzm
      have HS:Hid (∀ W,Below (wr.heap.size+1) (wr.alloc (.cells #[.int .i64 x,.int .i64 y] 88)).drew W→W.cell? ⟨g,8,none⟩=some (.slice (some ⟨bb,boff,none⟩) n2 c2)∧W.cell? ⟨bb,boff+(q - 1) * 2,none⟩=some (.int .i64 z)∧W.cell? ⟨wr.heap.size,1,none⟩=some (.int .i64 y)):=fun W hW=>by
       have h1:Below (w0.heap.size) w0 W:=HX.out.drew.trans (hW.mono (show w0.heap.size≤wr.heap.size+1 by have:=HBr.out.size;omega))
       refine ⟨(h1.cell (p:=⟨g,8,none⟩) hgl).trans B8,(h1.cell (p:=⟨bb,boff+(q - 1) * 2,none⟩) hb0).trans hcz0,?_⟩
       rw [hW.cell (p:=⟨wr.heap.size,1,none⟩) (Nat.lt_succ_self _)]
       have h2:(wr.alloc (.cells #[.int .i64 x,.int .i64 y] 88)).drew.heap[wr.heap.size]?=some (.cells #[.int .i64 x,.int .i64 y] 88 (0,0)):=heap_alloc_new _ _
       rw [Am.cell_of _ _ 1 _ _ (0,0) h2];rfl
      have e1:IntKind.i64.wrap ((q:Int) - 1)=((q - 1:Nat):Int):=by rw [show ((q - 1:Nat):Int)=(q:Int) - 1 by omega];exact IntWalk.i64_in _ (by omega)
      have e2:IntKind.i64.wrap (z - y)=z - y:=IntWalk.i64_in _ (by omega)
      have hk1:q - 1<n2:=by omega
      have hk1':((q - 1:Nat):Int)<(n2:Int):=by omega
      go_wp2_with fail
      refine wp_region_held_drew (S:=fun W'=>W'.cell? ⟨g,8,none⟩=some (.slice (some ⟨bb,boff,none⟩) n2 c2)∧W'.cell? ⟨bb,boff+(q - 1) * 2,none⟩=some (.int .i64 z)∧W'.cell? ⟨wr.heap.size,1,none⟩=some (.int .i64 y)) (by kernel_rfl) ?_ (fun hHeld=>?_)
      ·exact HS.out _ (Below.refl _ _)
      refine wpAnyH_take (i:=0) (v:=?_) rfl (by kernel_rfl) (by kernel_rfl) (by kernel_rfl) (fun _ _ _ h=>h) (Or.inl ⟨by rfl,?_⟩) (by assumption) ?_
      rotate_left
      ·intro w hSw;(try dsimp only at hSw);go_simp;try with_reducible rfl
      go_simp
      refine wpAnyH_take (i:=1) (v:=?_) rfl (by kernel_rfl) (by kernel_rfl) (by kernel_rfl) (fun _ _ _ h=>h) (Or.inl ⟨by rfl,?_⟩) (by assumption) ?_
      rotate_left
      ·intro w hSw;(try dsimp only at hSw);go_simp;try with_reducible rfl
      go_simp
      refine wpAnyH_take (i:=2) (v:=?_) rfl (by kernel_rfl) (by kernel_rfl) (by kernel_rfl) (fun _ _ _ h=>h) (Or.inl ⟨by rfl,?_⟩) (by assumption) ?_
      rotate_left
      ·intro w hSw;(try dsimp only at hSw);go_simp;try with_reducible rfl
      go_simp
      refine wpAnyH_take (i:=3) (v:=?_) rfl (by kernel_rfl) (by kernel_rfl) (by kernel_rfl) (fun _ _ _ h=>h) (Or.inl ⟨by rfl,?_⟩) (by assumption) ?_
      rotate_left
      ·intro w hSw;(try dsimp only at hSw);go_simp;try with_reducible rfl
      go_simp
      refine wpAnyH_take (i:=4) (v:=?_) rfl (by kernel_rfl) (by kernel_rfl) (by kernel_rfl) (fun _ _ _ h=>h) (Or.inl ⟨by rfl,?_⟩) (by assumption) ?_
      rotate_left
      ·intro w hSw;(try dsimp only at hSw);go_simp;try with_reducible rfl
      go_simp
      refine wpAnyH_take (i:=5) (v:=?_) rfl (by kernel_rfl) (by kernel_rfl) (by kernel_rfl) (fun _ _ _ h=>h) (Or.inl ⟨by rfl,?_⟩) (by assumption) ?_
      rotate_left
      ·intro w hSw;(try dsimp only at hSw);go_simp;try with_reducible rfl
      go_simp
      refine wpAnyH_take (i:=6) (v:=?_) rfl (by kernel_rfl) (by kernel_rfl) (by kernel_rfl) (fun _ _ _ h=>h) (Or.inl ⟨by rfl,?_⟩) (by assumption) ?_
      rotate_left
      ·intro w hSw;(try dsimp only at hSw);go_simp;try with_reducible rfl
      go_simp
      refine wpAnyH_take (i:=7) (v:=?_) rfl (by kernel_rfl) (by kernel_rfl) (by kernel_rfl) (fun _ _ _ h=>h) (Or.inl ⟨by rfl,?_⟩) (by assumption) ?_
      rotate_left
      ·intro w hSw;(try dsimp only at hSw);go_simp;try with_reducible rfl
      go_simp
      refine wpAnyH_take (i:=8) (v:=?_) rfl (by kernel_rfl) (by kernel_rfl) (by kernel_rfl) (fun _ _ _ h=>h) (Or.inl ⟨by rfl,?_⟩) (by assumption) ?_
      rotate_left
      ·intro w hSw;(try dsimp only at hSw);go_simp;try with_reducible rfl
      go_simp
      refine wpAnyH_take (i:=9) (v:=?_) rfl (by kernel_rfl) (by kernel_rfl) (by kernel_rfl) (fun _ _ _ h=>h) (Or.inl ⟨by rfl,?_⟩) (by assumption) ?_
      rotate_left
      ·intro w hSw;(try dsimp only at hSw);go_simp;try with_reducible rfl
      go_simp
      refine wpAnyH_take (i:=10) (v:=?_) rfl (by kernel_rfl) (by kernel_rfl) (by kernel_rfl) (fun _ _ _ h=>h) (Or.inl ⟨by rfl,?_⟩) (by assumption) ?_
      rotate_left
      ·intro w hSw;(try dsimp only at hSw);go_simp;try with_reducible rfl
      go_simp
      refine wpAnyH_ready (rs:=[11]) (by kernel_rfl) (by simp) ?_
      refine AllReadyH.cons rfl (fun K hK=>?_) AllReadyH.nil
      go_simp
      refine hK.out _ _ ?_ (fun hHeld=>?_)
      ·exact HS.out _ ((Below.refl _ _).alloc (by simp) _)
      clear hK K
      go_simp
      refine wpAnyH_ready (rs:=[12]) (by kernel_rfl) (by simp) ?_
      refine AllReadyH.cons rfl (fun K hK=>?_) AllReadyH.nil
      refine step_own rfl (.tmp 66) (.tmp 77) 41 rfl w0.heap.size 3 iI (.int .i64 0) 1 8 Try.underlying41 HI.out.1 HI.out.2.1 HI.out.2.2.1 HI.out.2.2.2 rfl (by decide) (.slice A' n c') n (ints L) (by simp [Act.eval,Act.put]) (HOa.out.drew.alloc _) ((wr.alloc (.cells #[.int .i64 x,.int .i64 y] 88)).drew.heap.size+1) (some ⟨(wr.alloc (.cells #[.int .i64 x,.int .i64 y] 88)).drew.heap.size,0,none⟩) 1 1 (ints [z - y]) (by simp [Act.eval,Act.put]) (rd_new _ _ _ _ _ _ _ rfl (Nat.lt_succ_self _) rfl rfl) (ones_ints _) (by unfold maxLen;omega) (by omega) (hba.out _) ?_
      intro v1 w1 hown1 hgrow1
      obtain ⟨A1,c1,e1,_⟩:=own_form hown1
      subst e1
      have HP:=Lib.hid (HPUSH.out (z - y) A1 c1 w1 (wr.alloc (.cells #[.int .i64 x,.int .i64 y] 88)).drew (by simp) ⟨rfl,rfl,rfl,Nat.le_refl _,fun _ _=>rfl⟩ HX.out.drew HG.out hown1 _ hgrow1)
      have HBw1:Hid (Below (wr.heap.size+1) (wr.alloc (.cells #[.int .i64 x,.int .i64 y] 88)) w1∨True):=.inr trivial
      clear hown1 hgrow1
      have HO1:Hid (w1.ownsRow w0.heap.size 3 1 (.slice A1 (n+1) c1) (n+1) (ints (L ++ [z - y]))):=HP.out.1.2.1
      have hx1:w1.cell? ⟨wr.heap.size,0,none⟩=some (.int .i64 x):=by rw [Am.cell_of w1 _ 0 _ _ (0,0) HP.out.2.1];rfl
      have hy1:w1.cell? ⟨wr.heap.size,1,none⟩=some (.int .i64 y):=by rw [Am.cell_of w1 _ 1 _ _ (0,0) HP.out.2.1];rfl
      have hb1:Hid (w0.heap.size≤(w1.alloc (.cells #[.int .i64 (y - x)] 3)).heap.size):=by have:=HP.out.1.2.2.size;show _≤_;simp only [World.size_alloc];omega
      refine hK.out _ _ ?_ (fun hHeld=>?_)
      ·exact ⟨(HP.out.1.2.2.cell (p:=⟨g,8,none⟩) hgl).trans B8,(HP.out.1.2.2.cell (p:=⟨bb,boff+(q - 1) * 2,none⟩) hb0).trans hcz0,hy1⟩
      clear hK K
      go_simp
      refine wpAnyH_take (i:=13) (v:=?_) rfl (by kernel_rfl) (by kernel_rfl) (by kernel_rfl) (fun _ _ _ h=>h) (Or.inl ⟨by rfl,?_⟩) (by assumption) ?_
      rotate_left
      ·intro w hSw;(try dsimp only at hSw);go_simp;try with_reducible rfl
      go_simp
      refine wpAnyH_done (by kernel_rfl) ?_ _
      go_wp2_with (at_builtin;refine wpList_app _ rfl (.tmp 79) (.tmp 85) 41 rfl w0.heap.size 3 iI (.int .i64 0) 1 8 Try.underlying41 HI.out.1 HI.out.2.1 HI.out.2.2.1 HI.out.2.2.2 rfl (by decide) (.slice A1 (n+1) c1) (n+1) (ints (L ++ [z - y])) rfl (HO1.out.alloc _) (w1.heap.size+1) (some ⟨w1.heap.size,0,none⟩) 1 1 (ints [y - x]) (by simp [Act.eval]) (rd_new _ _ _ _ _ _ _ rfl (by omega) rfl rfl) (ones_ints _) (by unfold maxLen;omega) (by omega) hb1.out ?_)
      intro v2 w2 hown2 hgrow2
      obtain ⟨A3,c3,e3,_⟩:=own_form hown2
      subst e3
      have HN:=Lib.hid (HEND.out (z - y) A1 c1 w1 A3 c3 w2 HP.out.1 HP.out.2.2.1 hown2 _ hgrow2)
      clear hown2 hgrow2
      go_wp2_with fail
      go_roundw
      case rel=>exact ⟨q+1,n+1+1,_,by omega,by omega,by go_num,⟨_,_,rfl⟩,HN⟩
      case measure=>simp [intOf];omega
    ·have hlti:¬ (q:Int)<(n2:Int):=by omega
     obtain rfl:q=n2:=by omega
     have HE:Hid (NumsP ⟨k,id,off,a,b,note,fin,data,es⟩ w (.returned (.slice A' n c')) wr):=by
      refine ⟨A',n,c',rfl,?_,hn24,?_,?_⟩
      ·rw [HNU.out,← HJ.out.1];exact HJ.out.2.1
      ·rw [HNU.out,← HJ.out.1];exact own_base HOW.out H0.out.2.size
      ·exact H0.out.2.trans (HBr.out.mono H0.out.2.size)
     go_wp2_with fail
     go_ret
     exact HE.out
theorem bits_of (b0 b1 b2 b3 b4 b5 b6:Bool) (n:Nat) (h:((b0 && !(n.testBit 0)) || (b1 && !(n.testBit 1)) || (b2 && !(n.testBit 2)) || (b3 && !(n.testBit 3)) || (b4 && !(n.testBit 4)) || (b5 && !(n.testBit 5)) || (b6 && !(n.testBit 6)))=false) (hn:n=0∨n=64∨n=53∨n=15∨n=3∨n=2∨n=18∨n=32∨n=1) :
  (bits .andNot .i64 (carI (seven b0 b1 b2 b3 b4 b5 b6) 7) (n:Int) == 0)=true:=by
 rcases hn with rfl | rfl | rfl | rfl | rfl | rfl | rfl | rfl | rfl
 all_goals
  revert h
  cases b0 <;> cases b1 <;> cases b2 <;> cases b3 <;> cases b4 <;> cases b5 <;> cases b6 <;> first | (intro _;rfl) | (intro h;exact absurd h (by decide))
theorem car_ok {f:Fr} (h:OkF f):(bits .andNot .i64 (carI (carB f.id f.off f.a f.b f.fin f.data.length (f.spans.length / 2)) 7) (nm f.k:Int) == 0)=true:=by
 have hid:=h.zid
 have ha:=h.za
 have hoff:=h.zoff
 have hb:=h.zb
 have hfin:=h.zfin
 have hdata:=h.zdata
 have hsp:=h.zsp
 obtain ⟨h1,h2⟩:=h.k
 have hk:f.k=1∨f.k=2∨f.k=3∨f.k=4∨f.k=5∨f.k=6∨f.k=7∨f.k=8∨f.k=9∨f.k=10∨f.k=11∨f.k=12:=by omega
 clear h h1 h2
 unfold carB
 rcases hk with e | e | e | e | e | e | e | e | e | e | e | e
 all_goals
  rw [e] at hid ha hoff hb hfin hdata hsp
  rw [e]
  simp at hid ha hoff hb hfin hdata hsp
  refine bits_of _ _ _ _ _ _ _ (nm _) ?_ (by decide)
  simp [nm,Nat.testBit, *]
theorem spk_ok {es:List Int} {m:Nat} (h:SpsOk es m) (k:Nat) (hk:k<m):spK es k=true:=by
 obtain ⟨h1,h2,h3,h4⟩:=h.2 k hk
 unfold spK
 simp only [Bool.and_eq_true,Bool.or_eq_true,decide_eq_true_eq]
 refine ⟨⟨⟨h1,h3⟩,h2⟩,?_⟩
 by_cases h0:k=0
 ·exact .inl h0
 ·have:=h4 (by omega)
  obtain ⟨g1,g2,g3,_⟩:=h.2 (k - 1) (by omega)
  refine .inr ?_
  rw [IntWalk.wrap64_in _ (by omega)]
  omega
theorem sps_half {es:List Int} {m:Nat} (h:SpsOk es m):es.length / 2=m:=by have:=h.1;omega
/-- The spans of a right frame, as a list that is right, however many. -/
theorem OkF.sps {f:Fr} (h:OkF f):∃ m,m≤8∧SpsOk f.spans m:=by
 rcases h.zsp with ⟨_,m,_,h8,hs⟩ | ⟨_,hs⟩
 ·exact ⟨m,h8,hs⟩
 ·exact ⟨0,by omega,by rw [hs];exact ⟨rfl,fun k h=>by omega⟩⟩
theorem wid_ok {n:Int} (h:wid n≠0):0≤n∧n≤4611686018427387903:=by
 unfold wid at h
 split at h
 ·exact absurd rfl h
 ·omega
theorem right_ok {f:Fr} (h:OkF f):rightB f=true:=by
 have hk:=h.k
 have hkn:kn f.k=true:=by unfold kn;simp only [Bool.and_eq_true,decide_eq_true_eq];exact hk
 obtain ⟨n1,n2,n3,n4⟩:=h.num
 have hrn:rnB f.id f.a f.off f.b=true:=by
  unfold rnB
  simp only [Bool.and_eq_true,decide_eq_true_eq]
  refine ⟨fun n hn=>?_,h.bo⟩
  simp only [List.mem_cons,List.not_mem_nil,or_false] at hn
  rcases hn with rfl | rfl | rfl | rfl <;> assumption
 have hrd:rdB f.k f.off f.data.length=true:=by
  unfold rdB
  have:=wid_ok n2
  have hr:=h.room
  rw [IntWalk.wrap64_in _ (by omega)]
  simp only [Bool.and_eq_true,Bool.or_eq_true,decide_eq_true_eq,Bool.not_eq_true',decide_eq_false_iff_not]
  refine ⟨⟨h.data.1,by omega⟩,?_⟩
  by_cases h9:f.k=9
  ·have:=h.dg h9
   refine .inl (List.length_pos_iff.2 this)
  ·exact .inr h9
 have hsp:((bits .and .i64 (nm f.k:Int) 64 == 0) || rsB f.spans (f.spans.length / 2))=true:=by
  rcases h.zsp with ⟨h2,m,h1,h8,hs⟩ | ⟨h2,hs⟩
  ·rw [sps_half hs,rsB_all (fun k hk=>spk_ok hs k hk)]
   simp [h1,h8]
  ·have:(bits .and .i64 (nm f.k:Int) 64 == 0)=true:=by
    have hkk:f.k=1∨f.k=3∨f.k=4∨f.k=5∨f.k=6∨f.k=7∨f.k=8∨f.k=9∨f.k=10∨f.k=11∨f.k=12:=by omega
    rcases hkk with e | e | e | e | e | e | e | e | e | e | e <;> rw [e] <;> rfl
   rw [this];rfl
 unfold rightB
 rw [hkn,hrn,car_ok h,hrd,hsp]
 rfl
theorem selN_mem {b:Nat→Bool} {v:Nat→Int}:∀ {k:Nat} {x:Int},x ∈ selN b v k→∃ j,j<k∧x=v j
 | 0,x,h=>by cases h
 | k+1,x,h=>by
   simp only [selN,List.mem_append] at h
   rcases h with h | h
   ·obtain ⟨j,hj,e⟩:=selN_mem h
    exact ⟨j,by omega,e⟩
   ·split at h
    ·simp only [List.mem_cons,List.not_mem_nil,or_false] at h
     exact ⟨k,by omega,h⟩
    ·cases h
theorem runN_may {es:List Int} {m:Nat} (h:SpsOk es m):∀ q,q≤m→∀ x ∈ runN es q,wid x≠0
 | 0,_,x,hx=>by cases hx
 | q+1,hq,x,hx=>by
   simp only [runN,List.mem_append,List.mem_cons,List.not_mem_nil,or_false] at hx
   obtain ⟨h1,h2,h3,h4⟩:=h.2 q (by omega)
   rcases hx with hx | rfl | rfl
   ·exact runN_may h q (by omega) x hx
   ·unfold runG
    split
    ·rename_i h0
     rw [h0] at h1 h2 h3
     simp only [Nat.mul_zero,Nat.zero_add] at h1 h2 h3
     exact wid_in (by omega) h3
    ·have:=h4 (by omega)
     obtain ⟨g1,g2,g3,_⟩:=h.2 (q - 1) (by omega)
     exact wid_in (by omega) (by omega)
   ·exact wid_in (by omega) (by omega)
theorem nums_may {f:Fr} (h:OkF f):allMay (nums f):=fun x hx=>by
 obtain ⟨m,hm,hs⟩:=h.sps
 unfold nums at hx
 simp only [List.mem_append,List.mem_cons] at hx
 rcases hx with (rfl | hx) | hx
 ·exact wid_in (by have:=h.k;omega) (by have:=h.k;omega)
 ·obtain ⟨j,hj,rfl⟩:=selN_mem hx
  obtain ⟨n1,n2,n3,n4⟩:=h.num
  have hjc:j=0∨j=1∨j=2∨j=3∨j=4∨j=5∨j=6:=by omega
  rcases hjc with rfl | rfl | rfl | rfl | rfl | rfl | rfl
  ·exact n1
  ·exact n3
  ·exact n2
  ·exact n4
  ·show wid (bitI f.fin)≠0
   cases f.fin <;> decide
  ·exact wid_in (by show (0:Int)≤(f.data.length:Int);omega) (by have:=h.data.1;show (f.data.length:Int)≤_;omega)
  ·have e:=sps_half hs
   exact wid_in (by show (0:Int)≤((f.spans.length / 2:Nat):Int);omega) (by show ((f.spans.length / 2:Nat):Int)≤_;omega)
 ·rw [sps_half hs] at hx
  exact runN_may hs m (Nat.le_refl _) x hx
/-- A frame's bytes. -/
def encF (f:Fr):List Nat:=encsB (nums f) ++ f.data
def layF (fs:List Fr):List Nat:=fs.flatMap encF
theorem layF_snoc (fs:List Fr) (k:Nat) (f:Fr) (hf:fs[k]?=some f):layF (fs.take (k+1))=layF (fs.take k) ++ encF f:=by
 obtain ⟨hl,rfl⟩:=List.getElem?_eq_some_iff.1 hf
 unfold layF
 rw [List.take_succ_eq_append_getElem hl,List.flatMap_append]
 simp
theorem runN_len (es:List Int):∀ q,(runN es q).length=2 * q
 | 0=>rfl
 | q+1=>by rw [runN,List.length_append,runN_len es q];simp;omega
theorem selN_len (b:Nat→Bool) (v:Nat→Int):∀ k,(selN b v k).length≤k
 | 0=>by simp [selN]
 | k+1=>by rw [selN,List.length_append];have:=selN_len b v k;split <;> simp <;> omega
theorem encF_len {f:Fr} (h:OkF f):(encF f).length≤312:=by
 obtain ⟨m,hm,hs⟩:=h.sps
 have h1:=sumW_le (nums f)
 have h2:(nums f).length≤24:=by
  unfold nums
  rw [List.length_append,List.length_cons,runN_len,sps_half hs]
  have:=selN_len (nbit f.k) (numV f) 7
  omega
 have h3:=h.data.1
 unfold encF
 rw [List.length_append,encsB_len]
 omega
theorem encF_lt {f:Fr} (h:OkF f):∀ c ∈ encF f,c<256:=fun c hc=>by
 unfold encF at hc
 rcases List.mem_append.1 hc with h1 | h1
 ·exact encsB_lt _ c h1
 ·exact h.data.2 c h1
end Go.Proofs.Ytoahkffdoaphlaa
namespace Go.Proofs.Ytoahkffdoaphlaa
open Go Go.RowKit
def LayP (fs:List Fr) (w:World) (e:Ending) (w':World):Prop:=∃ A n c,e=.returned (.tuple #[.slice A n c,.int .i64 0])∧(layF fs).length=n∧w'.ownsRow w.heap.size 5 1 (.slice A n c) n (bv (layF fs))∧Below w.heap.size w w'
theorem layF_len {fs:List Fr} (h:∀ f ∈ fs,OkF f):(layF fs).length≤312 * fs.length:=by
 induction fs with
 | nil=>simp [layF]
 | cons f fs ih =>
   have h1:=encF_len (h f (by simp))
   have h2:=ih (fun g hg=>h g (by simp [hg]))
   unfold layF at h2 ⊢
   rw [List.flatMap_cons,List.length_append,List.length_cons]
   omega
/-- A frame in a value, as a call takes it. -/
theorem FrC.isFr {w:World} {f:Fr} {A1 A2:Option Addr} {n1 c1 n2 c2:Nat} (h:FrC w f (frC f (.slice A1 n1 c1) (.slice A2 n2 c2))):IsFr w w.heap.size f A1 n1 c1 A2 n2 c2:=by
 obtain ⟨A,n,c,A',n',c',e,h1,h2,h3,h4⟩:=h
 simp only [frC,List.cons.injEq,Value.slice.injEq,true_and,and_true] at e
 obtain ⟨⟨rfl,rfl,rfl⟩,rfl,rfl,rfl⟩:=e
 obtain ⟨_,_,e1,g1,_,_,r1⟩:=own_form h3
 obtain ⟨_,_,e2,g2,_,_,r2⟩:=own_form h4
 simp only [Value.slice.injEq] at e1 e2
 obtain ⟨rfl,_,rfl⟩:=e1
 obtain ⟨rfl,_,rfl⟩:=e2
 exact ⟨h1,g1,by simpa using r1,h2,g2,r2⟩
def LayW (w wr:World) (fs:List Fr) (k:Nat) (v:Value) (m:Nat):Prop:=(layF (fs.take k)).length=m∧wr.ownsRow w.heap.size 5 1 v m (bv (layF (fs.take k)))∧Below w.heap.size w wr
end Go.Proofs.Ytoahkffdoaphlaa
namespace Go.Proofs.Ytoahkffdoaphlaa
open Go Go.RowKit
theorem size_ok_f (f:Fr) (A1:Option Addr) (n1 c1:Nat) (A2:Option Addr) (n2 c2:Nat) (w:World) (h:IsFr w w.heap.size f A1 n1 c1 A2 n2 c2) (hof:OkF f) :
  Calls Try.prog 101 #[.agg #[.int .i64 f.k,.int .i64 f.id,.int .i64 f.off,.int .i64 f.a,.int .i64 f.b,.int .i64 f.note,.bool f.fin,.slice A1 n1 c1,.slice A2 n2 c2]] w fun e w'=>e=.returned (.int .i64 ((encF f).length:Int))∧Below w.heap.size w w':=by
 have HC:Hid (∀ W,Below w.heap.size w W→IsFr W W.heap.size f A1 n1 c1 A2 n2 c2):=fun W hW=>by
  obtain ⟨h1,h2,h3,h4,h5,h6⟩:=h.below hW (Nat.le_refl _)
  exact ⟨h1,h2,h3.more hW.size,h4,h5,h6.more hW.size⟩
 have HOF:=Lib.hid hof
 obtain ⟨ms,hms8,hsps⟩:=hof.sps
 have hnn:ms=n2:=by have h1:=hsps.1;have h2:=h.2.2.2.1;omega
 subst hnn
 have hn1:n1≤120:=by have h1:=h.1;have:=hof.data.1;omega
 have hdl:Hid (f.data.length=n1):=h.1
 have HRI:Hid (∀ W,Below w.heap.size w W→Calls Try.prog 109 #[.agg #[.int .i64 f.k,.int .i64 f.id,.int .i64 f.off,.int .i64 f.a,.int .i64 f.b,.int .i64 f.note,.bool f.fin,.slice A1 n1 c1,.slice A2 ms c2]] W fun e w'=>e=.returned (.bool true)∧Below W.heap.size W w'):=fun W hW=>by
  have:=right_any f W.heap.size A1 n1 c1 A2 ms c2 W (HC.out W hW) (Nat.le_refl _) (by omega) (by omega)
  rw [right_ok HOF.out] at this
  exact this
 have HNU:Hid (∀ W,Below w.heap.size w W→Calls Try.prog 110 #[.agg #[.int .i64 f.k,.int .i64 f.id,.int .i64 f.off,.int .i64 f.a,.int .i64 f.b,.int .i64 f.note,.bool f.fin,.slice A1 n1 c1,.slice A2 ms c2]] W (NumsP f W)):=fun W hW=>numbers_any f A1 n1 c1 A2 ms c2 W (HC.out W hW) hsps hms8 (by omega)
 clear h hof hsps
 go_enter Try.func101,Try.ntmps101
 go_wp2_with fail
 refine (HRI.out _ ((Below.refl _ _).alloc (Nat.le_refl _) _)).mono ?_
 rintro e w1 ⟨rfl,hb1⟩
 obtain ⟨g,hg⟩:∃ g,Hid (w.heap.size=g):=⟨_,rfl⟩
 have HB1:Hid (Below w.heap.size w w1):=((Below.refl _ _).alloc (Nat.le_refl _) _).trans (hb1.mono (by simp))
 have HX1:Hid (∀ j,w1.cell? ⟨g,j,none⟩=(w.alloc (.cells #[.int .i64 f.k,.int .i64 f.id,.int .i64 f.off,.int .i64 f.a,.int .i64 f.b,.int .i64 f.note,.bool f.fin,.slice A1 n1 c1,.slice A2 ms c2] 54)).cell? ⟨w.heap.size,j,none⟩):=fun j=>by rw [← hg.out];exact hb1.cell (p:=⟨w.heap.size,j,none⟩) (by simp)
 have hgl:Hid (g<w1.heap.size):=by have:=hb1.size;simp at this;have:=hg.out;show _<_;omega
 have HS:Hid (∀ W',Below w1.heap.size w1 W'→W'.cell? ⟨g,0,none⟩=some (.int .i64 f.k)∧W'.cell? ⟨g,1,none⟩=some (.int .i64 f.id)∧W'.cell? ⟨g,2,none⟩=some (.int .i64 f.off)∧W'.cell? ⟨g,3,none⟩=some (.int .i64 f.a)∧W'.cell? ⟨g,4,none⟩=some (.int .i64 f.b)∧W'.cell? ⟨g,5,none⟩=some (.int .i64 f.note)∧W'.cell? ⟨g,6,none⟩=some (.bool f.fin)∧W'.cell? ⟨g,7,none⟩=some (.slice A1 n1 c1)∧W'.cell? ⟨g,8,none⟩=some (.slice A2 ms c2)):=fun W hW=>by
  refine ⟨?_,?_,?_,?_,?_,?_,?_,?_,?_⟩
  all_goals (refine (hW.cell (p:=⟨g,_,none⟩) hgl.out).trans ?_;rw [HX1.out];simp [go_sem])
 have HD:Hid (Below w1.heap.size w1 w1.drew):=⟨rfl,rfl,rfl,Nat.le_refl _,fun _ _=>rfl⟩
 clear hb1
 rw [hg.out]
 have hcs:=HS.out w1 (Below.refl _ _)
 obtain ⟨c0_,c1_,c2_,c3_,c4_,c5_,c6_,c7_,c8_⟩:=hcs
 go_wp2_with fail
 refine wp_region_held_drew (S:=fun W'=>W'.cell? ⟨g,0,none⟩=some (.int .i64 f.k)∧W'.cell? ⟨g,1,none⟩=some (.int .i64 f.id)∧W'.cell? ⟨g,2,none⟩=some (.int .i64 f.off)∧W'.cell? ⟨g,3,none⟩=some (.int .i64 f.a)∧W'.cell? ⟨g,4,none⟩=some (.int .i64 f.b)∧W'.cell? ⟨g,5,none⟩=some (.int .i64 f.note)∧W'.cell? ⟨g,6,none⟩=some (.bool f.fin)∧W'.cell? ⟨g,7,none⟩=some (.slice A1 n1 c1)∧W'.cell? ⟨g,8,none⟩=some (.slice A2 ms c2)) (by kernel_rfl) ?_ (fun hHeld=>?_)
 ·exact HS.out _ HD.out
 refine wpAnyH_take (i:=0) (v:=?_) rfl (by kernel_rfl) (by kernel_rfl) (by kernel_rfl) (fun _ _ _ h=>h) (Or.inl ⟨by rfl,?_⟩) (by assumption) ?_
 rotate_left
 ·intro w hSw;(try dsimp only at hSw);go_simp;try with_reducible rfl
 go_simp
 refine wpAnyH_take (i:=3) (v:=?_) rfl (by kernel_rfl) (by kernel_rfl) (by kernel_rfl) (fun _ _ _ h=>h) (Or.inl ⟨by rfl,?_⟩) (by assumption) ?_
 rotate_left
 ·intro w hSw;(try dsimp only at hSw);go_simp;try with_reducible rfl
 go_simp
 refine wpAnyH_take (i:=4) (v:=?_) rfl (by kernel_rfl) (by kernel_rfl) (by kernel_rfl) (fun _ _ _ h=>h) (Or.inl ⟨by rfl,?_⟩) (by assumption) ?_
 rotate_left
 ·intro w hSw;(try dsimp only at hSw);go_simp;try with_reducible rfl
 go_simp
 refine wpAnyH_take (i:=5) (v:=?_) rfl (by kernel_rfl) (by kernel_rfl) (by kernel_rfl) (fun _ _ _ h=>h) (Or.inl ⟨by rfl,?_⟩) (by assumption) ?_
 rotate_left
 ·intro w hSw;(try dsimp only at hSw);go_simp;try with_reducible rfl
 go_simp
 refine wpAnyH_ready (rs:=[1]) (by kernel_rfl) (by simp) ?_
 refine AllReadyH.cons rfl (fun K hK=>?_) AllReadyH.nil
 go_simp
 refine (HNU.out _ (HB1.out.trans (HD.out.mono HB1.out.size))).mono ?_
 rintro e w2 ⟨A3,n3,c3,rfl,hnl,hn24,hno,hb2⟩
 have HNO:=Lib.hid hno
 have HNL:=Lib.hid hnl
 have HB2:Hid (Below w1.heap.size w1 w2):=HD.out.trans (hb2.mono HD.out.size)
 clear hb2 hno hnl
 refine hK.out _ _ ?_ (fun hHeld=>?_)
 ·exact HS.out _ HB2.out
 clear hK K
 go_simp
 refine wpAnyH_ready (rs:=[2]) (by kernel_rfl) (by simp) ?_
 refine AllReadyH.cons rfl (fun K hK=>?_) AllReadyH.nil
 go_simp
 have HSZ:Hid (Calls Try.prog 102 #[.slice A3 n3 c3] w2 fun e w'=>e=.returned (.int .i64 ((encsB (nums f)).length:Int))∧w2=w'):=by
  have ho:=HNO.out
  have e3:=HNL.out
  subst e3
  obtain ⟨_,_,e,_,_,hokA,hrd⟩:=own_form ho
  simp only [Value.slice.injEq] at e
  obtain ⟨rfl,_,rfl⟩:=e
  rw [Nat.mul_one] at hrd
  have:=size_any (nums f) w2.heap.size A3 c3 w2 hokA hrd (by omega)
  rw [if_pos (nums_may HOF.out)] at this
  rw [encsB_len]
  exact this
 refine HSZ.out.mono ?_
 rintro e w' ⟨rfl,rfl⟩
 refine hK.out _ _ ?_ (fun hHeld=>?_)
 ·exact HS.out _ HB2.out
 clear hK K
 go_simp
 refine wpAnyH_take (i:=6) (v:=?_) rfl (by kernel_rfl) (by kernel_rfl) (by kernel_rfl) (fun _ _ _ h=>h) (Or.inl ⟨by rfl,?_⟩) (by assumption) ?_
 rotate_left
 ·intro w hSw;(try dsimp only at hSw);go_simp;try with_reducible rfl
 go_simp
 refine wpAnyH_take (i:=7) (v:=?_) rfl (by kernel_rfl) (by kernel_rfl) (by kernel_rfl) (fun _ _ _ h=>h) (Or.inl ⟨by rfl,?_⟩) (by assumption) ?_
 rotate_left
 ·intro w hSw;(try dsimp only at hSw);go_simp;try with_reducible rfl
 go_simp
 refine wpAnyH_done (by kernel_rfl) ?_ _
 have hbl:((encsB (nums f)).length:Int)≤192:=by have h1:=sumW_le (nums f);have h2:=encsB_len (nums f);have h3:=HNL.out;omega
 have HEL:Hid (IntKind.i64.wrap (((encsB (nums f)).length:Int)+(n1:Int))=((encF f).length:Int)):=by show _=_;rw [IntWalk.i64_in _ (by omega)];unfold encF;rw [List.length_append,hdl.out];omega
 go_wp2_with fail
 go_ret
 exact ⟨ret_int HEL.out,HB1.out.trans (HB2.out.mono HB1.out.size)⟩
end Go.Proofs.Ytoahkffdoaphlaa
