/- Joined texts. Conditions: as each theorem lists them. -/
import Derived.Test.YtccljifichaieaaDoorJUe
import Derived.Test.YtccljifichaieaaDoorJRz
import Derived.Test.YtccljifichaieaaDoorJVy
import Derived.Test.YtccljifichaieaaDoorJ10b
import Derived.Test.YtccljifichaieaaDoorJTh
import Derived.Test.YtccljifichaieaaDoorJSlC
import Derived.BigGuard
import Derived.OwnWalk
set_option linter.unusedSimpArgs false
set_option linter.unusedVariables false
set_option maxRecDepth 100000
set_option maxHeartbeats 8000000
namespace Go.Proofs.YtccljifichaieaaDoor.Rv
open Go Go.RowKit
def BoxF (f:Fr):Prop:=f.data.length≤121∧f.spans.length≤18∧∀ z ∈ f.data,z<256
def allR (fs:List Fr):Bool:=fs.all rightB
theorem frs_even {w:World} {A:Option Addr} {n c:Nat} {fs:List Fr} (h:Frs w A n c fs):∀ f ∈ fs,f.spans.length % 2=0:=fun f hf=>by
 obtain ⟨k,hk,e⟩:=List.mem_iff_getElem.1 hf
 obtain ⟨b,off,f',A1,n1,c1,A2,n2,c2,_,_,hf',hfc,_⟩:=Frs.get h k (by have:=h.1;omega)
 rw [List.getElem?_eq_getElem hk,e] at hf'
 cases hf'
 have:=hfc.isFr.2.2.2.1
 omega
theorem allR_ok {w:World} {A:Option Addr} {n c:Nat} {fs:List Fr} (h:Frs w A n c fs) (hb:∀ f ∈ fs,BoxF f) (ha:allR fs=true):∀ f ∈ fs,OkF f:=fun f hf=>by
 unfold allR at ha
 rw [List.all_eq_true] at ha
 exact ok_right (ha f hf) (frs_even h f hf) (hb f hf).2.2
/-- The first that is wrong. -/
theorem first_bad:∀ {fs:List Fr},allR fs=false→∃ M bad,fs[M]?=some bad∧rightB bad=false∧∀ f ∈ fs.take M,rightB f=true
 | [],h=>by simp [allR] at h
 | f :: fs,h=>by
   cases hr:rightB f with
   | false=>exact ⟨0,f,rfl,hr,fun g hg=>by simp at hg⟩
   | true =>
     have h2:allR fs=false:=by
      unfold allR at h ⊢
      simpa [hr] using h
     obtain ⟨M,bad,h3,h4,h5⟩:=first_bad h2
     refine ⟨M+1,bad,by simpa using h3,h4,fun g hg=>?_⟩
     rw [List.take_succ_cons] at hg
     rcases List.mem_cons.1 hg with rfl | hg
     ·exact hr
     ·exact h5 g hg
/-- What a Lay of frames tells. -/
def LayQ (fs:List Fr) (w:World) (e:Ending) (w':World):Prop :=
 Below w.heap.size w w'∧(allR fs=false→e=.returned (.tuple #[.slice none 0 0,.int .i64 1])) ∧
 (allR fs=true→∃ A c,e=.returned (.tuple #[.slice A (layF fs).length c,.int .i64 0])∧w'.ownsRow w.heap.size 5 1 (.slice A (layF fs).length c) (layF fs).length (bv (layF fs)))
theorem hlay_any (fs:List Fr) (A:Option Addr) (n c:Nat) (w:World) (ht:Tabs w) (h:Frs w A n c fs) (hb:∀ f ∈ fs,BoxF f) (hn:n≤100) :
  Calls Tryd.prog 21 #[.slice A n c] w (LayQ fs w):=by
 cases ha:allR fs with
 | true =>
   refine (lay_ok fs A n c w ht h (allR_ok h hb ha) hn).mono ?_
   rintro e w' ⟨A1,n1,c1,rfl,rfl,ho,hb2⟩
   exact ⟨hb2,fun h=>(by rw [ha] at h;cases h),fun _=>⟨A1,c1,rfl,ho⟩⟩
 | false =>
   obtain ⟨M,bad,h1,h2,h3⟩:=first_bad ha
   have hmem:bad ∈ fs:=by obtain ⟨q,e⟩:=List.getElem?_eq_some_iff.1 h1;rw [← e];exact List.getElem_mem q
   refine (lay_part fs M A n c w ht h (fun f hf=>ok_right (h3 f hf) (frs_even h f (List.mem_of_mem_take hf)) (hb f (List.mem_of_mem_take hf)).2.2) bad h1 h2 (by have:=(hb bad hmem).1;omega) (by have:=(hb bad hmem).2.1;omega) hn).mono ?_
   rintro e w' ⟨rfl,hb2⟩
   exact ⟨hb2,fun _=>rfl,fun h=>by rw [ha] at h;cases h⟩
theorem rlayF_any (fs:List Fr) (A:Option Addr) (n c:Nat) (w:World) (h:Frs w A n c fs) (hb:∀ f ∈ fs,BoxF f) (hn:n≤100) :
  Calls Tryd.prog 25 #[.slice A n c] w (LayQ fs w):=by
 have HH:=Lib.hid h
 have HBX:=Lib.hid hb
 have hci:(n:Int)≤(c:Int):=by have:=h.2.1;omega
 obtain ⟨i0,hi,hz0,hz1,hz2⟩:=info_parts infoB
 have HI:=Lib.hid (And.intro hi (And.intro hz0 (And.intro hz1 hz2)))
 clear h hb hi hz0 hz1 hz2
 go_enter Tryd.func25,Tryd.ntmps25
 go_wp2_with fail
 go_loopw [4,5] (fun v i wr=>∃ (k m:Nat),k≤n∧m≤312 * k∧i=.int .i64 k∧(∃ A' c',v=.slice A' m c')∧Hid ((∀ f ∈ fs.take k,rightB f=true)∧LayW w wr fs k v m)) (fun _ i _=>n - (intOf i).toNat)
 case atStart=>exact ⟨0,0,Nat.zero_le _,by omega,rfl,⟨_,_,rfl⟩,fun f hf=>(by simp at hf),rfl,own_nil _ _ _ _,Below.refl _ _⟩
 case round =>
  obtain ⟨k,m,hk,hm,rfl,⟨A',c',rfl⟩,HK0⟩:=hrel
  have HK:Hid (LayW w wr fs k (.slice A' m c') m):=HK0.out.2
  have HRT:Hid (∀ f ∈ fs.take k,rightB f=true):=HK0.out.1
  clear HK0
  have hm2:m≤31200:=by omega
  by_cases hlt:k<n
  ·have hlti:(k:Int)<(n:Int):=by omega
   obtain ⟨b,off,f,A1,n1,c1,A2,n2,c2,hA,hbl,hf,hfc,hcell⟩:=Frs.get HH.out k hlt
   subst hA
   have hmem:f ∈ fs:=by obtain ⟨q,e⟩:=List.getElem?_eq_some_iff.1 hf;rw [← e];exact List.getElem_mem q
   have HBF:=Lib.hid (HBX.out f hmem)
   have HFE:=Lib.hid (frs_even HH.out f hmem)
   have HGF:=Lib.hid hf
   have HSN:=Lib.hid (layF_snoc fs k f hf)
   have cc:∀ j,wr.cell? ⟨b,off+k * 9+j,none⟩=w.cell? ⟨b,off+k * 9+j,none⟩:=fun j=>HK.out.2.2.cell (p:=⟨b,off+k * 9+j,none⟩) hbl
   have g0:wr.cell? ⟨b,off+k * 9,none⟩=some (.int .i64 f.k):=(cc 0).trans (hcell 0 _ rfl)
   have g1:wr.cell? ⟨b,off+k * 9+1,none⟩=some (.int .i64 f.id):=(cc 1).trans (hcell 1 _ rfl)
   have g2:wr.cell? ⟨b,off+k * 9+2,none⟩=some (.int .i64 f.off):=(cc 2).trans (hcell 2 _ rfl)
   have g3:wr.cell? ⟨b,off+k * 9+3,none⟩=some (.int .i64 f.a):=(cc 3).trans (hcell 3 _ rfl)
   have g4:wr.cell? ⟨b,off+k * 9+4,none⟩=some (.int .i64 f.b):=(cc 4).trans (hcell 4 _ rfl)
   have g5:wr.cell? ⟨b,off+k * 9+5,none⟩=some (.int .i64 f.note):=(cc 5).trans (hcell 5 _ rfl)
   have g6:wr.cell? ⟨b,off+k * 9+6,none⟩=some (.bool f.fin):=(cc 6).trans (hcell 6 _ rfl)
   have g7:wr.cell? ⟨b,off+k * 9+7,none⟩=some (.slice A1 n1 c1):=(cc 7).trans (hcell 7 _ rfl)
   have g8:wr.cell? ⟨b,off+k * 9+8,none⟩=some (.slice A2 n2 c2):=(cc 8).trans (hcell 8 _ rfl)
   have HC:Hid (∀ W,Below w.heap.size w W→IsFr W W.heap.size f A1 n1 c1 A2 n2 c2):=fun W hW=>(hfc.below hW).isFr
   have HRI:=Lib.hid (rright_any f A1 n1 c1 A2 n2 c2 wr (HC.out wr HK.out.2.2) HBF.out.2.2)
   obtain ⟨rb,hrb⟩:∃ x,Hid (rightB f=x):=⟨_,rfl⟩
   rw [hrb.out] at HRI
   have hbl2:b<w.heap.size:=hbl
   clear cc hcell hf hfc hmem
   go_wp2_with fail
   refine HRI.out.mono ?_
   rintro e w1 ⟨rfl,hb1⟩
   have HB1:=Lib.hid hb1
   have HBW1:Hid (Below w.heap.size w w1):=HK.out.2.2.trans (hb1.mono HK.out.2.2.size)
   have hbr:b<wr.heap.size:=Nat.lt_of_lt_of_le hbl2 HK.out.2.2.size
   cases rb
   ·have HE:Hid (LayQ fs w (.returned (.tuple #[.slice none 0 0,.int .i64 1])) w1):=by
     have hal:allR fs=false:=by
      cases hal:allR fs with
      | false=>rfl
      | true =>
        unfold allR at hal
        rw [List.all_eq_true] at hal
        have:=hal f (by obtain ⟨q,e⟩:=List.getElem?_eq_some_iff.1 HGF.out;rw [← e];exact List.getElem_mem q)
        rw [hrb.out] at this;cases this
     exact ⟨HBW1.out,fun _=>rfl,fun h=>by rw [hal] at h;cases h⟩
    clear hb1
    go_wp2_with fail
    go_ret2
    exact HE.out
   ·have hof:OkF f:=ok_right hrb.out HFE.out HBF.out.2.2
    have HEL:=Lib.hid (encF_len hof)
    have HRL:=Lib.hid (rlay_yes f A1 n1 c1 A2 n2 c2 w1 (HC.out w1 HBW1.out) hof)
    have q0:w1.cell? ⟨b,off+k * 9,none⟩=some (.int .i64 f.k):=(hb1.cell (p:=⟨b,off+k * 9,none⟩) hbr).trans g0
    have q1:w1.cell? ⟨b,off+k * 9+1,none⟩=some (.int .i64 f.id):=(hb1.cell (p:=⟨b,off+k * 9+1,none⟩) hbr).trans g1
    have q2:w1.cell? ⟨b,off+k * 9+2,none⟩=some (.int .i64 f.off):=(hb1.cell (p:=⟨b,off+k * 9+2,none⟩) hbr).trans g2
    have q3:w1.cell? ⟨b,off+k * 9+3,none⟩=some (.int .i64 f.a):=(hb1.cell (p:=⟨b,off+k * 9+3,none⟩) hbr).trans g3
    have q4:w1.cell? ⟨b,off+k * 9+4,none⟩=some (.int .i64 f.b):=(hb1.cell (p:=⟨b,off+k * 9+4,none⟩) hbr).trans g4
    have q5:w1.cell? ⟨b,off+k * 9+5,none⟩=some (.int .i64 f.note):=(hb1.cell (p:=⟨b,off+k * 9+5,none⟩) hbr).trans g5
    have q6:w1.cell? ⟨b,off+k * 9+6,none⟩=some (.bool f.fin):=(hb1.cell (p:=⟨b,off+k * 9+6,none⟩) hbr).trans g6
    have q7:w1.cell? ⟨b,off+k * 9+7,none⟩=some (.slice A1 n1 c1):=(hb1.cell (p:=⟨b,off+k * 9+7,none⟩) hbr).trans g7
    have q8:w1.cell? ⟨b,off+k * 9+8,none⟩=some (.slice A2 n2 c2):=(hb1.cell (p:=⟨b,off+k * 9+8,none⟩) hbr).trans g8
    have HO1:Hid (w1.ownsRow w.heap.size 5 1 (.slice A' m c') m (bv (layF (fs.take k)))):=own_below HK.out.2.1 hb1
    clear hb1 g0 g1 g2 g3 g4 g5 g6 g7 g8 hof
    go_wp2_with fail
    refine HRL.out.mono ?_
    rintro e w2 ⟨v2,rfl,ho2,hb2⟩
    obtain ⟨A4,c4,e4,_,_,_,hrd4⟩:=own_form ho2
    subst e4
    obtain ⟨l4,hl4⟩:∃ l,Hid ((encF f).length=l):=⟨_,rfl⟩
    rw [hl4.out] at hrd4 ⊢
    have hl4b:l4≤312:=by have:=HEL.out;have:=hl4.out;omega
    have HRD4:=Lib.hid hrd4
    have HO2:Hid (w2.ownsRow w.heap.size 5 1 (.slice A' m c') m (bv (layF (fs.take k)))):=own_below HO1.out hb2
    have HBW2:Hid (Below w.heap.size w w2):=HBW1.out.trans (hb2.mono HBW1.out.size)
    clear ho2 hb2 hrd4
    go_wp2_with (at_builtin;refine wpList_app _ rfl (.tmp 18) (.tmp 23) 24 rfl w.heap.size 5 i0 (.int .u8 0) 1 1 Tryd.underlying24 HI.out.1 HI.out.2.1 HI.out.2.2.1 HI.out.2.2.2 rfl (by decide) (.slice A' m c') m (bv (layF (fs.take k))) rfl HO2.out w2.heap.size A4 l4 c4 (bv (encF f)) rfl HRD4.out (ones_bv _) (by unfold maxLen;omega) (by omega) HBW2.out.size ?_)
    intro v5 w5 ho5 hg5
    obtain ⟨A5,c5,e5,_⟩:=own_form ho5
    subst e5
    have HN:Hid ((∀ g ∈ fs.take (k+1),rightB g=true)∧LayW w w5 fs (k+1) (.slice A5 (m+l4) c5) (m+l4)):=by
     refine ⟨fun g hg=>?_,?_,?_,HBW2.out.grown hg5 HBW2.out.size (fun g hg=>(HO2.out.lt g hg).1)⟩
     ·rw [List.take_add_one,HGF.out] at hg
      rcases List.mem_append.1 hg with h | h
      ·exact HRT.out g h
      ·simp at h;rw [h];exact hrb.out
     ·rw [HSN.out,List.length_append,hl4.out,HK.out.1]
     ·rw [HSN.out,bv_app];exact ho5
    clear ho5 hg5
    go_wp2_with fail
    go_roundw
    case rel=>exact ⟨k+1,m+l4,by omega,by omega,by go_num,⟨_,_,rfl⟩,HN⟩
    case measure=>simp [intOf];omega
  ·have hlti:¬ (k:Int)<(n:Int):=by omega
   obtain rfl:k=n:=by omega
   have hte:fs.take k=fs:=List.take_of_length_le (by rw [HH.out.1];exact Nat.le_refl _)
   have HE:Hid (LayQ fs w (.returned (.tuple #[.slice A' m c',.int .i64 0])) wr):=by
    have h1:=HRT.out
    have h2:=HK.out
    unfold LayW at h2
    rw [hte] at h1 h2
    obtain ⟨e1,h3,h4⟩:=h2
    have hal:allR fs=true:=by unfold allR;rw [List.all_eq_true];exact h1
    exact ⟨h4,fun h=>(by rw [hal] at h;cases h),fun _=>⟨A',c',by rw [e1],by rw [e1];exact h3⟩⟩
   clear hte hlt
   go_wp2_with fail
   go_ret2
   exact HE.out
end Go.Proofs.YtccljifichaieaaDoor.Rv
