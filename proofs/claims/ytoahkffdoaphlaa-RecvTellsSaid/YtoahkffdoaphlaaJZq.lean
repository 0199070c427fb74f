/- Joined texts. Conditions: as each theorem lists them. -/
import Derived.Test.YtoahkffdoaphlaaJZn
set_option linter.unusedSimpArgs false
set_option linter.unusedVariables false
set_option maxRecDepth 100000
set_option maxHeartbeats 80000000
namespace Go.Proofs.Ytoahkffdoaphlaa.Re
open Go Go.RowKit Go.Proofs.Ytoahkffdoaphlaa Go.Proofs.Ytoahkffdoaphlaa.Sp Go.Proofs.Ytoahkffdoaphlaa.Se Go.Maps
section
variable {W w w':World} {p n:Nat} {F F2 F2':List Nat} {s:Rs} {A:Option Addr} {bs:List Nat}
theorem over_hr (h:HR W w p n F s):Calls Try.prog 37 #[.pointer (some ⟨p,0,none⟩)] w fun e w'=>e=.returned (.int .i64 (overS s))∧∃ q,w'=w.drewN q:=by
 obtain ⟨v0,v4,h1⟩:=h.st
 exact over_rc h1
theorem ended_hr (h:HR W w p n F s):Calls Try.prog 46 #[.pointer (some ⟨p,0,none⟩)] w fun e w'=>e=.returned (.bool s.en)∧w'=w:=by
 obtain ⟨v0,v4,h1⟩:=h.st
 exact ended_rc h1
theorem lit_row2 (h:HR W w p n F s) (cur:Array Value) (bs:List Nat) (hc:cur.toList=bv bs) (m:Nat):∃ w',(convert 30 30 (.slice (some ⟨w.heap.size,0,none⟩) m m)).run Try.prog (w.alloc (.cells cur 5))=.ok (.slice (some ⟨w.heap.size,0,none⟩) m m) w'∧Below w.heap.size w w'∧RowO w' F (some ⟨w.heap.size,0,none⟩) bs:=by
 obtain ⟨w',h1,h2,h3⟩:=lit_bytes w cur bs hc m
 exact ⟨w',h1,h2,h3,fun _ a ea hk=>by cases ea;exact Nat.lt_irrefl _ (h.lt _ hk)⟩
/-- A stream with three rows beside it, while another one (F2) is called. -/
structure Both (W w:World) (p n:Nat) (F:List Nat) (s:Rs) (A1 A2 A3:Option Addr) (F2:List Nat):Prop where
 ks:HR W w p n F s
 k1:RowO w F A1 [97,98,99]
 k2:RowO w F A2 [100]
 k3:RowO w F A3 [101]
 dis:∀ k ∈ F,k ∉ F2
 r1:RowO w F2 A1 [97,98,99]
 r2:RowO w F2 A2 [100]
 r3:RowO w F2 A3 [101]
theorem Both.go {A1 A2 A3:Option Addr} (h:Both W w p n F s A1 A2 A3 F2) (hg:Goes w w' F2 F2') (hl:∀ k ∈ F2,W.heap.size≤k):Both W w' p n F s A1 A2 A3 F2':=by
 obtain ⟨⟨⟨v0,v4,h1⟩,h2,h3⟩,k1,k2,k3,hd,r1,r2,r3⟩:=h
 refine ⟨⟨⟨v0,v4,h1.kept hg.1 hd⟩,h2,h3.trans (hg.1.below h3.size hl)⟩,⟨(r1.go hg).1,k1.2⟩,⟨(r2.go hg).1,k2.2⟩,⟨(r3.go hg).1,k3.2⟩,fun k hk hm=>?_,r1.go hg,r2.go hg,r3.go hg⟩
 rcases hg.2 k hm with hx | hx
 ·exact hd k hk hx
 ·have:=h1.hF k hk;omega
theorem RowO.fresh (h:RowO w F A bs) (hb:Below w.heap.size w w') (hF:∀ k ∈ F2,w.heap.size≤k):RowO w' F2 A bs:=by
 refine ⟨(h.1.below hb (Nat.le_refl _)).more hb.size,fun h0 a ea hm=>?_⟩
 obtain ⟨b,o,e,hlt,_⟩:=h.1.2 h0
 rw [ea] at e
 cases e
 have:w.heap.size≤b:=hF _ hm
 omega
theorem Both.ks2 {A1 A2 A3:Option Addr} {F3:List Nat} (h:Both W w p n F s A1 A2 A3 F3) (hb:Below w.heap.size w w') (hF:∀ k ∈ F2,w.heap.size≤k):Both W w' p n F s A1 A2 A3 F2 :=
 ⟨h.ks.below hb,h.k1.go (Goes.below F hb),h.k2.go (Goes.below F hb),h.k3.go (Goes.below F hb),fun k hk hm=>by have:=h.ks.lt k hk;have:=hF k hm;omega,h.k1.fresh hb hF,h.k2.fresh hb hF,h.k3.fresh hb hF⟩
end
def q0 (K:Nat→Nat):Rs:=⟨[],400,0,400,0,0,false,false,0,0,K⟩
theorem q0_num (K:Nat→Nat):RsNum (q0 K):=num_of (show (0:Int)≤0∧(0:Int)≤4611686018427387903 by decide) (show (0:Int)≤0∧(0:Int)≤0 by decide) (show 0≤8796093022208 by decide)
theorem q0_rd (K:Nat→Nat):0≤(q0 K).rd∧(q0 K).rd≤1152921504606846976:=show (0:Int)≤0∧(0:Int)≤1152921504606846976 by decide
def q1 (K:Nat→Nat):Rs:=⟨[0,6],400,0,400,6,0,false,false,0,0,K⟩
theorem q1_num (K:Nat→Nat):RsNum (q1 K):=num_of (show (0:Int)≤6∧(6:Int)≤4611686018427387903 by decide) (show (0:Int)≤0∧(0:Int)≤6 by decide) (show 2≤8796093022208 by decide)
theorem q1_rd (K:Nat→Nat):0≤(q1 K).rd∧(q1 K).rd≤1152921504606846976:=show (0:Int)≤0∧(0:Int)≤1152921504606846976 by decide
def q2 (K:Nat→Nat):Rs:=⟨[0,8],400,0,400,8,0,false,false,0,0,K⟩
theorem q2_num (K:Nat→Nat):RsNum (q2 K):=num_of (show (0:Int)≤8∧(8:Int)≤4611686018427387903 by decide) (show (0:Int)≤0∧(0:Int)≤8 by decide) (show 2≤8796093022208 by decide)
theorem q2_rd (K:Nat→Nat):0≤(q2 K).rd∧(q2 K).rd≤1152921504606846976:=show (0:Int)≤0∧(0:Int)≤1152921504606846976 by decide
def q3 (K:Nat→Nat):Rs:=⟨[0,8],400,3,400,8,3,false,false,0,0,K⟩
theorem q3_num (K:Nat→Nat):RsNum (q3 K):=num_of (show (0:Int)≤8∧(8:Int)≤4611686018427387903 by decide) (show (0:Int)≤3∧(3:Int)≤8 by decide) (show 2≤8796093022208 by decide)
theorem q3_rd (K:Nat→Nat):0≤(q3 K).rd∧(q3 K).rd≤1152921504606846976:=show (0:Int)≤3∧(3:Int)≤1152921504606846976 by decide
def q4 (K:Nat→Nat):Rs:=⟨[0,8],400,3,400,30,3,true,true,9,5,K⟩
theorem q4_num (K:Nat→Nat):RsNum (q4 K):=num_of (show (0:Int)≤30∧(30:Int)≤4611686018427387903 by decide) (show (0:Int)≤3∧(3:Int)≤30 by decide) (show 2≤8796093022208 by decide)
theorem q4_rd (K:Nat→Nat):0≤(q4 K).rd∧(q4 K).rd≤1152921504606846976:=show (0:Int)≤3∧(3:Int)≤1152921504606846976 by decide
def q5 (K:Nat→Nat):Rs:=⟨[0,8,28,30],400,3,400,30,3,true,true,9,5,K⟩
theorem q5_num (K:Nat→Nat):RsNum (q5 K):=num_of (show (0:Int)≤30∧(30:Int)≤4611686018427387903 by decide) (show (0:Int)≤3∧(3:Int)≤30 by decide) (show 4≤8796093022208 by decide)
theorem q5_rd (K:Nat→Nat):0≤(q5 K).rd∧(q5 K).rd≤1152921504606846976:=show (0:Int)≤3∧(3:Int)≤1152921504606846976 by decide
def q6 (K:Nat→Nat):Rs:=⟨[0,8,28,30],400,4,400,30,4,true,true,9,5,K⟩
theorem q6_num (K:Nat→Nat):RsNum (q6 K):=num_of (show (0:Int)≤30∧(30:Int)≤4611686018427387903 by decide) (show (0:Int)≤4∧(4:Int)≤30 by decide) (show 4≤8796093022208 by decide)
theorem q6_rd (K:Nat→Nat):0≤(q6 K).rd∧(q6 K).rd≤1152921504606846976:=show (0:Int)≤4∧(4:Int)≤1152921504606846976 by decide
def q7 (K:Nat→Nat):Rs:=⟨[0,8,28,30],400,5,400,30,5,true,true,9,5,K⟩
theorem q7_num (K:Nat→Nat):RsNum (q7 K):=num_of (show (0:Int)≤30∧(30:Int)≤4611686018427387903 by decide) (show (0:Int)≤5∧(5:Int)≤30 by decide) (show 4≤8796093022208 by decide)
theorem q7_rd (K:Nat→Nat):0≤(q7 K).rd∧(q7 K).rd≤1152921504606846976:=show (0:Int)≤5∧(5:Int)≤1152921504606846976 by decide
def q8 (K:Nat→Nat):Rs:=⟨[0,8,28,30],400,5,400,30,5,true,true,9,2,K⟩
theorem q8_num (K:Nat→Nat):RsNum (q8 K):=num_of (show (0:Int)≤30∧(30:Int)≤4611686018427387903 by decide) (show (0:Int)≤5∧(5:Int)≤30 by decide) (show 4≤8796093022208 by decide)
theorem q8_rd (K:Nat→Nat):0≤(q8 K).rd∧(q8 K).rd≤1152921504606846976:=show (0:Int)≤5∧(5:Int)≤1152921504606846976 by decide
def t1 (K:Nat→Nat):Rs:=⟨[],400,0,400,0,0,true,false,0,0,K⟩
theorem t1_num (K:Nat→Nat):RsNum (t1 K):=num_of (show (0:Int)≤0∧(0:Int)≤4611686018427387903 by decide) (show (0:Int)≤0∧(0:Int)≤0 by decide) (show 0≤8796093022208 by decide)
theorem t1_rd (K:Nat→Nat):0≤(t1 K).rd∧(t1 K).rd≤1152921504606846976:=show (0:Int)≤0∧(0:Int)≤1152921504606846976 by decide
def u2 (K:Nat→Nat):Rs:=⟨[0,6],400,6,400,6,6,false,false,0,0,K⟩
theorem u2_num (K:Nat→Nat):RsNum (u2 K):=num_of (show (0:Int)≤6∧(6:Int)≤4611686018427387903 by decide) (show (0:Int)≤6∧(6:Int)≤6 by decide) (show 2≤8796093022208 by decide)
theorem u2_rd (K:Nat→Nat):0≤(u2 K).rd∧(u2 K).rd≤1152921504606846976:=show (0:Int)≤6∧(6:Int)≤1152921504606846976 by decide
def u3 (K:Nat→Nat):Rs:=⟨[0,6],400,6,400,9,6,true,true,3,2,K⟩
theorem u3_num (K:Nat→Nat):RsNum (u3 K):=num_of (show (0:Int)≤9∧(9:Int)≤4611686018427387903 by decide) (show (0:Int)≤6∧(6:Int)≤9 by decide) (show 2≤8796093022208 by decide)
theorem u3_rd (K:Nat→Nat):0≤(u3 K).rd∧(u3 K).rd≤1152921504606846976:=show (0:Int)≤6∧(6:Int)≤1152921504606846976 by decide
theorem e1:putS (q0 (fun _=>0)) 400 false [1]=(0,7,q0 (fun _=>0)):=by kernel_rfl
theorem e2:putS (q0 (fun _=>0)) (-1) false []=(0,1,q0 (fun _=>0)):=by kernel_rfl
theorem e3:putS (q0 (fun _=>0)) 0 false [97,98,99,100,101,102]=(6,0,q1 (mixK (fun _=>0) [0,6] 0 [97,98,99,100,101,102])):=by kernel_rfl
theorem e4 (K:Nat→Nat):putS (q1 K) 2 true [120]=(0,8,q1 K):=by kernel_rfl
theorem e5:putS (q1 (mixK (fun _=>0) [0,6] 0 [97,98,99,100,101,102])) 0 false [65,66,67,68,69,70,71,72]=(2,0,q2 (mixK (mixK (fun _=>0) [0,6] 0 [97,98,99,100,101,102]) [6,8] 0 [65,66,67,68,69,70,71,72])):=by kernel_rfl
theorem e6 (K:Nat→Nat):nS (q2 K) 3=((3:Nat):Int):=by kernel_rfl
theorem e6o (K:Nat→Nat):overS (q3 K)=0:=by kernel_rfl
theorem e6t (K K2:Nat→Nat):takenS (q2 K) ((3:Nat):Int) K2=q3 K2:=by kernel_rfl
theorem e7 (K:Nat→Nat):breakS (q3 K) 9 30 5=(22,0,q4 K):=by kernel_rfl
theorem e8 (K:Nat→Nat):breakS (q4 K) 9 31 5=(0,8,q4 K):=by kernel_rfl
theorem e9 (K:Nat→Nat):putS (q4 K) 29 false [122,122]=(0,8,q4 K):=by kernel_rfl
theorem e10 (K:Nat→Nat):putS (q4 K) 28 true [122,122]=(0,0,q5 (mixK K [28,30] 28 [122,122])):=by kernel_rfl
theorem e11 (K:Nat→Nat):nS (q5 K) 1=((1:Nat):Int):=by kernel_rfl
theorem e11o (K:Nat→Nat):overS (q6 K)=0:=by kernel_rfl
theorem e11t (K K2:Nat→Nat):takenS (q5 K) ((1:Nat):Int) K2=q6 K2:=by kernel_rfl
theorem e12 (K:Nat→Nat):nS (q6 K) 99=((1:Nat):Int):=by kernel_rfl
theorem e12o (K:Nat→Nat):overS (q7 K)=2:=by kernel_rfl
theorem e12t (K K2:Nat→Nat):takenS (q6 K) ((1:Nat):Int) K2=q7 K2:=by kernel_rfl
theorem e13 (K:Nat→Nat):breakS (q7 K) 4 30 2=(0,0,q8 K):=by kernel_rfl
theorem e14 (K:Nat→Nat):breakS (q8 K) 9 30 31=(0,1,q8 K):=by kernel_rfl
theorem e15 (K:Nat→Nat):breakS (q8 K) 9 900 1=(0,7,q8 K):=by kernel_rfl
theorem e16:putS (q0 (fun _=>0)) 0 true []=(0,0,t1 (mixK (fun _=>0) [] 0 [])):=by kernel_rfl
theorem e17 (K:Nat→Nat):breakS (t1 K) 5 0 0=(0,0,t1 K):=by kernel_rfl
theorem e18 (K:Nat→Nat):nS (t1 K) 0=((0:Nat):Int):=by kernel_rfl
theorem e18o (K:Nat→Nat):overS (t1 K)=1:=by kernel_rfl
theorem e18t (K K2:Nat→Nat):takenS (t1 K) ((0:Nat):Int) K2=t1 K2:=by kernel_rfl
theorem e19 (K:Nat→Nat):nS (q1 K) 6=((6:Nat):Int):=by kernel_rfl
theorem e19o (K:Nat→Nat):overS (u2 K)=0:=by kernel_rfl
theorem e19t (K K2:Nat→Nat):takenS (q1 K) ((6:Nat):Int) K2=u2 K2:=by kernel_rfl
theorem e20 (K:Nat→Nat):breakS (u2 K) 3 9 2=(3,0,u3 K):=by kernel_rfl
theorem e21 (K:Nat→Nat):nS (u3 K) 9=((0:Nat):Int):=by kernel_rfl
theorem e21o (K:Nat→Nat):overS (u3 K)=2:=by kernel_rfl
theorem e21t (K K2:Nat→Nat):takenS (u3 K) ((0:Nat):Int) K2=u3 K2:=by kernel_rfl
theorem s1:seqK (q2 (mixK (mixK (fun _=>0) [0,6] 0 [97,98,99,100,101,102]) [6,8] 0 [65,66,67,68,69,70,71,72])).K 0 3=[97,98,99]:=by kernel_rfl
theorem b3:(mixK (mixK (fun _=>0) [0,6] 0 [97,98,99,100,101,102]) [6,8] 0 [65,66,67,68,69,70,71,72]) 3=100:=by kernel_rfl
theorem b4:(mixK (mixK (fun _=>0) [0,6] 0 [97,98,99,100,101,102]) [6,8] 0 [65,66,67,68,69,70,71,72]) 4=101:=by kernel_rfl
end Go.Proofs.Ytoahkffdoaphlaa.Re
