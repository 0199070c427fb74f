/- Joined texts. Conditions: as each theorem lists them. -/
import Derived.Test.YtccljifichaieaaDoorJVb
import Derived.Test.YtccljifichaieaaDoorJVd
import Derived.BigGuard
set_option linter.unusedSimpArgs false
set_option linter.unusedVariables false
set_option maxRecDepth 100000
set_option maxHeartbeats 8000000
namespace Go.Proofs.YtccljifichaieaaDoor.Rv
open Go Go.RowKit
def BentW (w wr:World) (fs:List Fr) (v:Value):Prop:=(∀ f ∈ fs,BoxF f)∧FrsOwn wr w.heap.size v fs∧Below w.heap.size w wr
def BentP (K:Nat) (w:World) (e:Ending) (w':World):Prop:=∃ A n c fs,e=.returned (.slice A n c)∧fs.length=n∧n≤K∧BentW w w' fs (.slice A n c)
theorem hframes_any (K:Nat) (hK:K≤100) (rs:List Rw) (A:Option Addr) (n c:Nat) (w:World) (hr:IsRaws w A c n rs) :
  Calls Tryd.prog 6 #[.slice A n c,.int .i64 (K:Int)] w (BentP K w):=by
 have HR:=Lib.hid hr
 have hb:=hr.big
 have hci:(n:Int)≤(c:Int):=by have:=hr.cap;omega
 obtain ⟨i0,hi,hz0,hz1,hz2⟩:=info_parts infoFr
 have HI:=Lib.hid (And.intro hi (And.intro hz0 (And.intro hz1 hz2)))
 clear hr hi hz0 hz1 hz2
 go_enter Tryd.func6,Tryd.ntmps6
 go_wp2_with fail
 go_loopw [5,6] (fun v i wr=>∃ (k:Nat),k≤K∧k≤n∧i=.int .i64 k∧(∃ A' c',v=.slice A' k c')∧Hid (∃ fs,fs.length=k∧BentW w wr fs v)) (fun _ i _=>n - (intOf i).toNat)
 case atStart=>exact ⟨0,Nat.zero_le _,Nat.zero_le _,rfl,⟨_,_,rfl⟩,[],rfl,fun f hf=>(by cases hf),FrsOwn.nil _ _,Below.refl _ _⟩
 case round =>
  obtain ⟨k,hkK,hkn,rfl,⟨A',c',rfl⟩,HK⟩:=hrel
  obtain ⟨fs,hfl,hfw⟩:=HK.out
  have HFL:=Lib.hid hfl
  have HFW:=Lib.hid hfw
  clear HK hfl hfw
  by_cases hlt:k<n
  ·have hlti:(k:Int)<(n:Int):=by omega
   by_cases hltK:k<K
   ·have hK2:decide (k<K)=true:=decide_eq_true hltK
    obtain ⟨b,off,hA,hbn,hcs⟩:=HR.out.rd (by omega)
    subst hA
    obtain ⟨r,hrk⟩:∃ r,rs[k]?=some r:=⟨_,List.getElem?_eq_getElem (by rw [HR.out.len];omega)⟩
    obtain ⟨hok,hcell⟩:=hcs k r hrk
    obtain ⟨rk,rid,roff,ra,rb,rbend,rfin,rA1,rbs,rc1,rA2,rl,rc2⟩:=r
    have hb2:b<w.heap.size:=hbn
    have cc:∀ j,wr.cell? ⟨b,off+k * 9+j,none⟩=w.cell? ⟨b,off+k * 9+j,none⟩:=fun j=>HFW.out.2.2.cell (p:=⟨b,off+k * 9+j,none⟩) hb2
    have g0:wr.cell? ⟨b,off+k * 9,none⟩=some (.int .i64 rk):=(cc 0).trans (hcell 0 _ rfl)
    have g1:wr.cell? ⟨b,off+k * 9+1,none⟩=some (.int .i64 rid):=(cc 1).trans (hcell 1 _ rfl)
    have g2:wr.cell? ⟨b,off+k * 9+2,none⟩=some (.int .i64 roff):=(cc 2).trans (hcell 2 _ rfl)
    have g3:wr.cell? ⟨b,off+k * 9+3,none⟩=some (.int .i64 ra):=(cc 3).trans (hcell 3 _ rfl)
    have g4:wr.cell? ⟨b,off+k * 9+4,none⟩=some (.int .i64 rb):=(cc 4).trans (hcell 4 _ rfl)
    have g5:wr.cell? ⟨b,off+k * 9+5,none⟩=some (.int .i64 rbend):=(cc 5).trans (hcell 5 _ rfl)
    have g6:wr.cell? ⟨b,off+k * 9+6,none⟩=some (.bool rfin):=(cc 6).trans (hcell 6 _ rfl)
    have g7:wr.cell? ⟨b,off+k * 9+7,none⟩=some (.slice rA1 rbs.length rc1):=(cc 7).trans (hcell 7 _ rfl)
    have g8:wr.cell? ⟨b,off+k * 9+8,none⟩=some (.slice rA2 rl.length rc2):=(cc 8).trans (hcell 8 _ rfl)
    have HF:Hid (∀ W,Below w.heap.size w W→Calls Tryd.prog 20 #[.agg #[.int .i64 rk,.int .i64 rid,.int .i64 roff,.int .i64 ra,.int .i64 rb,.int .i64 rbend,.bool rfin,.slice rA1 rbs.length rc1,.slice rA2 rl.length rc2]] W (FrameQ W)):=fun W hW =>
     hframeB_any rk rid roff ra rb rbend rfin rA1 rbs rc1 rA2 rl rc2 W hok.id hok.off hok.a hok.b ((hok.bs.below hW (Nat.le_refl _)).more hW.size) hok.bc hok.bm hok.blt ((hok.l.below hW (Nat.le_refl _)).more hW.size) hok.lc hok.lm hok.llt
    clear hcs hok hcell cc hrk
    go_wp2_with fail
    refine (HF.out _ HFW.out.2.2).mono ?_
    rintro e w2 ⟨f,v,rfl,hd1,hs1,hl1,hfo,hb2'⟩
    have hokf:BoxF f:=⟨hd1,hs1,hl1⟩
    obtain ⟨A1,n1,c1,A2,n2,c2,rfl,e1,e2,h3,h4⟩:=hfo
    have hfc:FrC w2 f (frC f (.slice A1 n1 c1) (.slice A2 n2 c2)):=⟨A1,n1,c1,A2,n2,c2,rfl,e1,e2,own_base h3 (Nat.zero_le _),own_base h4 (Nat.zero_le _)⟩
    unfold frA
    have HC:=Lib.hid hfc
    have HOK:=Lib.hid hokf
    have HBR:Hid (Below wr.heap.size wr w2):=hb2'
    have HW2:Hid (∃ cells,w2.ownsRow w.heap.size 44 9 (.slice A' k c') fs.length cells∧FrsC w2 fs cells):=HFW.out.2.1.below HBR.out
    obtain ⟨cells,hown2,hfrs2⟩:=HW2.out
    rw [HFL.out] at hown2
    have HO2:=Lib.hid hown2
    have HS2:=Lib.hid hfrs2
    have HBW:Hid (Below w.heap.size w w2):=HFW.out.2.2.trans (HBR.out.mono HFW.out.2.2.size)
    clear e1 e2 h3 h4 hfc hokf hb2' hd1 hs1 hl1 hown2 hfrs2 HW2
    have hb3:Hid (w.heap.size≤(w2.alloc (.cells #[.int .i64 f.k,.int .i64 f.id,.int .i64 f.off,.int .i64 f.a,.int .i64 f.b,.int .i64 f.note,.bool f.fin,.slice A1 n1 c1,.slice A2 n2 c2] 44)).heap.size):=by have:=HBW.out.size;show _≤_;simp only [World.size_alloc];omega
    go_wp2_with (at_builtin;refine wpList_app _ rfl (.tmp 18) (.tmp 24) 27 rfl w.heap.size 44 i0 (.agg #[.int .i64 0,.int .i64 0,.int .i64 0,.int .i64 0,.int .i64 0,.int .i64 0,.bool false,.slice none 0 0,.slice none 0 0]) 9 104 Tryd.underlying27 HI.out.1 HI.out.2.1 HI.out.2.2.1 HI.out.2.2.2 rfl (by decide) (.slice A' k c') k cells rfl (HO2.out.alloc _) (w2.heap.size+1) (some ⟨w2.heap.size,0,none⟩) 1 1 (frC f (.slice A1 n1 c1) (.slice A2 n2 c2)) rfl (rd_new _ _ _ _ _ _ _ rfl (by omega) rfl rfl) HC.out.ones (by unfold maxLen;omega) (by omega) hb3.out ?_)
    intro v1 w3 hown3 hgrow3
    obtain ⟨A3,c3,e3,_⟩:=own_form hown3
    subst e3
    have HN:Hid (∃ fs,fs.length=k+1∧BentW w w3 fs (.slice A3 (k+1) c3)):=by
     refine ⟨fs ++ [f],by rw [List.length_append,HFL.out];rfl,fun g hg=>?_,?_,?_⟩
     ·rcases List.mem_append.1 hg with h | h
      ·exact HFW.out.1 g h
      ·simp only [List.mem_cons,List.not_mem_nil,or_false] at h
       subst h;exact HOK.out
     ·exact FrsOwn.push (by rw [HFL.out];exact HO2.out) HS2.out HC.out (by rw [HFL.out];exact hown3) hgrow3
     ·exact (HBW.out.alloc HBW.out.size _).grown hgrow3 hb3.out (fun g hg=>(HO2.out.lt g hg).1)
    clear hown3 hgrow3
    go_wp2_with fail
    go_roundw
    case rel=>exact ⟨k+1,by omega,by omega,by go_num,⟨_,_,rfl⟩,HN⟩
    case measure=>simp [intOf];omega
   ·have hK2:decide (k<K)=false:=decide_eq_false hltK
    have HE:Hid (BentP K w (.returned (.slice A' k c')) wr):=⟨A',k,c',fs,rfl,HFL.out,hkK,HFW.out⟩
    clear HFL HFW
    go_wp2_with fail
    go_ret
    exact HE.out
  ·have hlti:¬ (k:Int)<(n:Int):=by omega
   have HE:Hid (BentP K w (.returned (.slice A' k c')) wr):=⟨A',k,c',fs,rfl,HFL.out,hkK,HFW.out⟩
   clear HFL HFW
   go_wp2_with fail
   go_ret
   exact HE.out
end Go.Proofs.YtccljifichaieaaDoor.Rv
