/- Joined texts. Conditions: as each theorem lists them. -/
import Derived.Test.YtccljifichaieaaDoorJ5b
import Derived.Test.YtccljifichaieaaDoorJ5
set_option linter.unusedSimpArgs false
set_option linter.unusedVariables false
set_option maxRecDepth 100000
set_option maxHeartbeats 8000000
namespace Go.Proofs.YtccljifichaieaaDoor
open Go Go.RowKit
theorem lay_part (fs:List Fr) (M:Nat) (A:Option Addr) (n c:Nat) (w:World) (ht:Tabs w) (h:Frs w A n c fs) (hok:∀ f ∈ fs.take M,OkF f) (bad:Fr) (hbd:fs[M]?=some bad) (hbr:rightB bad=false) (hb1:bad.data.length≤1000000) (hb2:bad.spans.length≤1000000) (hn:n≤100) :
  Calls Tryd.prog 21 #[.slice A n c] w (fun e w'=>e=.returned (.tuple #[.slice none 0 0,.int .i64 1])∧Below w.heap.size w w'):=by
 have hMn:M<n:=by
  have:=(List.getElem?_eq_some_iff.1 hbd).1
  have:=h.1
  omega
 have HBD:=Lib.hid hbd
 have HBR:=Lib.hid hbr
 have HT:=Lib.hid ht
 have HH:=Lib.hid h
 have HOK:=Lib.hid hok
 have hci:(n:Int)≤(c:Int):=by have:=h.2.1;omega
 have hni:(n:Int)≤100:=by omega
 obtain ⟨i0,hi,hz0,hz1,hz2⟩:=info_parts infoB
 have HI:=Lib.hid (And.intro hi (And.intro hz0 (And.intro hz1 hz2)))
 clear ht h hok hi hz0 hz1 hz2 hbd hbr
 go_enter Tryd.func21,Tryd.ntmps21
 go_wp2_with fail
 go_loopw [4,9] (fun v i wr=>∃ (k m:Nat),k≤M∧m≤312 * k∧i=.int .i64 k∧(∃ A' c',v=.slice A' m c')∧Hid (LayW w wr fs k v m)) (fun _ i _=>n - (intOf i).toNat)
 case atStart=>exact ⟨0,0,Nat.zero_le _,by omega,rfl,⟨_,_,rfl⟩,rfl,own_nil _ _ _ _,Below.refl _ _⟩
 case round =>
  obtain ⟨k,m,hk,hm,rfl,⟨A',c',rfl⟩,HK⟩:=hrel
  have hm2:m≤31200:=by omega
  have hkn:k<n:=by omega
  have hlti:(k:Int)<(n:Int):=by omega
  by_cases hlt:k<M
  ·skip
   obtain ⟨b,off,f,A1,n1,c1,A2,n2,c2,hA,hbl,hf,hfc,hcell⟩:=HH.out.get k hkn
   subst hA
   have hof:OkF f:=HOK.out f (by rw [List.mem_take_iff_getElem];obtain ⟨q1,q2⟩:=List.getElem?_eq_some_iff.1 hf;exact ⟨k,by omega,q2⟩)
   have HOF:=Lib.hid hof
   have HSN:=Lib.hid (layF_snoc fs k f hf)
   have HEL:=Lib.hid (encF_len hof)
   have cc:∀ j,wr.cell? ⟨b,off+k * 9+j,none⟩=w.cell? ⟨b,off+k * 9+j,none⟩:=fun j=>HK.out.2.2.cell (p:=⟨b,off+k * 9+j,none⟩) hbl
   have g0:wr.cell? ⟨b,off+k * 9,none⟩=some (.int .i64 f.k):=(cc 0).trans (hcell 0 _ rfl)
   have g1:wr.cell? ⟨b,off+k * 9+1,none⟩=some (.int .i64 f.id):=(cc 1).trans (hcell 1 _ rfl)
   have g2:wr.cell? ⟨b,off+k * 9+2,none⟩=some (.int .i64 f.off):=(cc 2).trans (hcell 2 _ rfl)
   have g3:wr.cell? ⟨b,off+k * 9+3,none⟩=some (.int .i64 f.a):=(cc 3).trans (hcell 3 _ rfl)
   have g4:wr.cell? ⟨b,off+k * 9+4,none⟩=some (.int .i64 f.b):=(cc 4).trans (hcell 4 _ rfl)
   have g5:wr.cell? ⟨b,off+k * 9+5,none⟩=some (.int .i64 f.note):=(cc 5).trans (hcell 5 _ rfl)
   have g6:wr.cell? ⟨b,off+k * 9+6,none⟩=some (.bool f.fin):=(cc 6).trans (hcell 6 _ rfl)
   have g7:wr.cell? ⟨b,off+k * 9+7,none⟩=some (.slice A1 n1 c1):=(cc 7).trans (hcell 7 _ rfl)
   have g8:wr.cell? ⟨b,off+k * 9+8,none⟩=some (.slice A2 n2 c2):=(cc 8).trans (hcell 8 _ rfl)
   have HC:Hid (∀ W,Below w.heap.size w W→IsFr W W.heap.size f A1 n1 c1 A2 n2 c2):=fun W hW=>(hfc.below hW).isFr
   obtain ⟨ms,hms8,hsps⟩:=hof.sps
   have hnn:ms=n2:=by have h1:=hsps.1;have h2:=(HC.out w (Below.refl _ _)).2.2.2.1;omega
   subst hnn
   have hn1:n1≤120:=by have h1:=(HC.out w (Below.refl _ _)).1;have:=hof.data.1;omega
   have hdl:Hid (f.data.length=n1):=(HC.out w (Below.refl _ _)).1
   have HRI:Hid (∀ W,Below w.heap.size w W→Calls Tryd.prog 42 #[.agg #[.int .i64 f.k,.int .i64 f.id,.int .i64 f.off,.int .i64 f.a,.int .i64 f.b,.int .i64 f.note,.bool f.fin,.slice A1 n1 c1,.slice A2 ms c2]] W fun e w'=>e=.returned (.bool true)∧Below W.heap.size W w'):=fun W hW=>by
    have:=right_any f W.heap.size A1 n1 c1 A2 ms c2 W (HC.out W hW) (Nat.le_refl _) (by omega) (by omega)
    rw [right_ok HOF.out] at this
    exact this
   have HNU:Hid (∀ W,Below w.heap.size w W→Calls Tryd.prog 44 #[.agg #[.int .i64 f.k,.int .i64 f.id,.int .i64 f.off,.int .i64 f.a,.int .i64 f.b,.int .i64 f.note,.bool f.fin,.slice A1 n1 c1,.slice A2 ms c2]] W (NumsP f W)):=fun W hW=>numbers_any f A1 n1 c1 A2 ms c2 W (HC.out W hW) hsps hms8 (by omega)
   clear cc hcell hf hfc hof hsps
   go_wp2_with fail
   refine (HRI.out _ (HK.out.2.2.alloc HK.out.2.2.size _)).mono ?_
   rintro e w1 ⟨rfl,hb1⟩
   obtain ⟨hc1,hf1⟩:=bcell hb1
   have hz1:wr.heap.size<w1.heap.size:=by have:=hb1.size;simp at this;omega
   have HB1:Hid (Below wr.heap.size wr w1):=((Below.refl _ _).alloc (Nat.le_refl _) _).trans (hb1.mono (by simp))
   have HX1:Hid (Below (wr.heap.size+1) (wr.alloc (.cells #[.int .i64 f.k,.int .i64 f.id,.int .i64 f.off,.int .i64 f.a,.int .i64 f.b,.int .i64 f.note,.bool f.fin,.slice A1 n1 c1,.slice A2 ms c2] 44)) w1):=hb1.mono (by simp)
   clear hb1
   go_wp2_with fail
   refine (HNU.out _ (HK.out.2.2.trans (HB1.out.mono HK.out.2.2.size))).mono ?_
   rintro e w2 ⟨A3,n3,c3,rfl,hnl,hn24,hno,hb2⟩
   have HNO:=Lib.hid hno
   have HNL:=Lib.hid hnl
   have HB2:Hid (Below wr.heap.size wr w2):=HB1.out.trans (hb2.mono (Nat.le_of_lt hz1))
   have HX2:Hid (Below (wr.heap.size+1) (wr.alloc (.cells #[.int .i64 f.k,.int .i64 f.id,.int .i64 f.off,.int .i64 f.a,.int .i64 f.b,.int .i64 f.note,.bool f.fin,.slice A1 n1 c1,.slice A2 ms c2] 44)) w2):=HX1.out.trans (hb2.mono hz1)
   clear hb2 hno hnl hc1 hf1
   have HSW:Hid (sumW (nums f)≤192):=by have:=sumW_le (nums f);have:=HNL.out;show _≤_;omega
   have HPUT:Hid (Calls Tryd.prog 43 #[.slice none 0 0,.slice A3 n3 c3] w2 fun e w'=>∃ v',e=.returned v'∧w'.ownsRow w2.heap.size 5 1 v' (encsB (nums f)).length (bv (encsB (nums f)))∧Below w2.heap.size w2 w'):=by
    have ho:=HNO.out
    have e3:=HNL.out
    subst e3
    obtain ⟨_,_,e,_,_,hokA,hrd⟩:=own_form ho
    simp only [Value.slice.injEq] at e
    obtain ⟨rfl,_,rfl⟩:=e
    rw [Nat.mul_one] at hrd
    have:=put_ok none 0 0 [] 0 (nums f) w2.heap.size A3 c3 w2 (HT.out.below (HK.out.2.2.trans (HB2.out.mono HK.out.2.2.size)) HT.out.lt) ⟨rfl,fun h=>by omega⟩ (Nat.zero_le _) (fun u hu=>by cases hu) hrd (Nat.le_refl _) hokA (by omega) (nums_may HOF.out) (by have:=HSW.out;omega)
    simp only [Nat.zero_add,List.nil_append,encs_bv] at this
    rw [encsB_len]
    exact this
   go_wp2_with fail
   refine HPUT.out.mono ?_
   rintro e w3 ⟨v3,rfl,ho3,hb3⟩
   obtain ⟨A4,c4,e4,_,_,_,hrd4⟩:=own_form ho3
   subst e4
   obtain ⟨l4,hl4⟩:∃ l,Hid ((encsB (nums f)).length=l):=⟨_,rfl⟩
   rw [hl4.out] at hrd4 ⊢
   have HRD4:=Lib.hid hrd4
   have hl4b:l4≤192:=by have h1:=HSW.out;have h2:=encsB_len (nums f);have h3:=hl4.out;omega
   have HB3:Hid (Below wr.heap.size wr w3):=HB2.out.trans (hb3.mono HB2.out.size)
   have HX3:Hid (Below (wr.heap.size+1) (wr.alloc (.cells #[.int .i64 f.k,.int .i64 f.id,.int .i64 f.off,.int .i64 f.a,.int .i64 f.b,.int .i64 f.note,.bool f.fin,.slice A1 n1 c1,.slice A2 ms c2] 44)) w3):=HX2.out.trans (hb3.mono (by have:=HX2.out.size;simpa using this))
   have HO3:Hid (w3.ownsRow w.heap.size 5 1 (.slice A' m c') m (bv (layF (fs.take k)))):=own_below HK.out.2.1 HB3.out
   have HBW3:Hid (Below w.heap.size w w3):=HK.out.2.2.trans (HB3.out.mono HK.out.2.2.size)
   clear ho3 hb3 hrd4 hz1
   go_wp2_with (at_builtin;refine wpList_app _ rfl (.tmp 16) (.tmp 19) 24 rfl w.heap.size 5 i0 (.int .u8 0) 1 1 Tryd.underlying24 HI.out.1 HI.out.2.1 HI.out.2.2.1 HI.out.2.2.2 rfl (by decide) (.slice A' m c') m (bv (layF (fs.take k))) rfl HO3.out w3.heap.size A4 l4 c4 (bv (encsB (nums f))) rfl HRD4.out (ones_bv _) (by unfold maxLen;omega) (by omega) HBW3.out.size ?_)
   intro v4 w4 ho4 hg4
   obtain ⟨A5,c5,e5,_⟩:=own_form ho4
   subst e5
   have HO4:=Lib.hid ho4
   have HBW4:Hid (Below w.heap.size w w4):=HBW3.out.grown hg4 HBW3.out.size (fun g hg=>(HO3.out.lt g hg).1)
   have hcd:w4.cell? ⟨wr.heap.size,7,none⟩=some (.slice A1 n1 c1):=by
    have h1:w3.cell? ⟨wr.heap.size,7,none⟩=some (.slice A1 n1 c1):=by
     rw [HX3.out.cell (p:=⟨wr.heap.size,7,none⟩) (Nat.lt_succ_self _)]
     simp [go_sem]
    rw [← h1]
    refine World.cell?_of_block (w:=w3) (hg4.block wr.heap.size (by have:=HX3.out.size;simp at this;omega) (fun e=>?_))
    have:=HK.out.2.1.lt _ e.symm
    omega
   have HRD5:Hid (Rd w4 w4.heap.size A1 n1 (bv f.data)):=(HC.out w4 HBW4.out).2.2.1
   clear ho4 hg4
   go_wp2_with (at_builtin;refine wpList_app _ rfl (.tmp 21) (.tmp 23) 24 rfl w.heap.size 5 i0 (.int .u8 0) 1 1 Tryd.underlying24 HI.out.1 HI.out.2.1 HI.out.2.2.1 HI.out.2.2.2 rfl (by decide) (.slice A5 (m+l4) c5) (m+l4) (bv (layF (fs.take k)) ++ bv (encsB (nums f))) rfl HO4.out w4.heap.size A1 n1 c1 (bv f.data) rfl (by rw [Nat.mul_one];exact HRD5.out) (ones_bv _) (by unfold maxLen;omega) (by omega) HBW4.out.size ?_)
   intro v5 w5 ho5 hg5
   obtain ⟨A6,c6,e6,_⟩:=own_form ho5
   subst e6
   have HN:Hid (LayW w w5 fs (k+1) (.slice A6 (m+l4+n1) c6) (m+l4+n1)):=by
    refine ⟨?_,?_,HBW4.out.grown hg5 HBW4.out.size (fun g hg=>(HO4.out.lt g hg).1)⟩
    ·rw [HSN.out,List.length_append,HK.out.1];unfold encF;rw [List.length_append,hl4.out,hdl.out];omega
    ·rw [HSN.out];unfold encF;rw [bv_app,bv_app];exact ho5
   have hmm:m+l4+n1≤312 * (k+1):=by omega
   clear ho5 hg5
   go_wp2_with fail
   go_roundw
   case rel=>exact ⟨k+1,m+l4+n1,by omega,hmm,by go_num,⟨_,_,rfl⟩,HN⟩
   case measure=>simp [intOf];omega
  ·obtain rfl:k=M:=by omega
   obtain ⟨b,off,f,A1,n1,c1,A2,n2,c2,hA,hbl,hf,hfc,hcell⟩:=HH.out.get k hkn
   subst hA
   have hfb:f=bad:=Option.some.inj (hf.symm.trans HBD.out)
   have cc:∀ j,wr.cell? ⟨b,off+k * 9+j,none⟩=w.cell? ⟨b,off+k * 9+j,none⟩:=fun j=>HK.out.2.2.cell (p:=⟨b,off+k * 9+j,none⟩) hbl
   have g0:wr.cell? ⟨b,off+k * 9,none⟩=some (.int .i64 f.k):=(cc 0).trans (hcell 0 _ rfl)
   have g1:wr.cell? ⟨b,off+k * 9+1,none⟩=some (.int .i64 f.id):=(cc 1).trans (hcell 1 _ rfl)
   have g2:wr.cell? ⟨b,off+k * 9+2,none⟩=some (.int .i64 f.off):=(cc 2).trans (hcell 2 _ rfl)
   have g3:wr.cell? ⟨b,off+k * 9+3,none⟩=some (.int .i64 f.a):=(cc 3).trans (hcell 3 _ rfl)
   have g4:wr.cell? ⟨b,off+k * 9+4,none⟩=some (.int .i64 f.b):=(cc 4).trans (hcell 4 _ rfl)
   have g5:wr.cell? ⟨b,off+k * 9+5,none⟩=some (.int .i64 f.note):=(cc 5).trans (hcell 5 _ rfl)
   have g6:wr.cell? ⟨b,off+k * 9+6,none⟩=some (.bool f.fin):=(cc 6).trans (hcell 6 _ rfl)
   have g7:wr.cell? ⟨b,off+k * 9+7,none⟩=some (.slice A1 n1 c1):=(cc 7).trans (hcell 7 _ rfl)
   have g8:wr.cell? ⟨b,off+k * 9+8,none⟩=some (.slice A2 n2 c2):=(cc 8).trans (hcell 8 _ rfl)
   have HRI:Hid (∀ W,Below w.heap.size w W→Calls Tryd.prog 42 #[.agg #[.int .i64 f.k,.int .i64 f.id,.int .i64 f.off,.int .i64 f.a,.int .i64 f.b,.int .i64 f.note,.bool f.fin,.slice A1 n1 c1,.slice A2 n2 c2]] W fun e w'=>e=.returned (.bool false)∧Below W.heap.size W w'):=fun W hW=>by
    have hif:=(hfc.below hW).isFr
    have h1:=hif.1
    have h2:=hif.2.2.2.1
    rw [hfb] at h1 h2
    have:=right_any f W.heap.size A1 n1 c1 A2 n2 c2 W hif (Nat.le_refl _) (by omega) (by omega)
    rw [hfb,HBR.out] at this
    rw [hfb]
    exact this
   clear cc hcell hf hfc hfb
   go_wp2_with fail
   refine (HRI.out _ (HK.out.2.2.alloc HK.out.2.2.size _)).mono ?_
   rintro e w1 ⟨rfl,hb1⟩
   have HBF:Hid (Below w.heap.size w w1):=(HK.out.2.2.alloc HK.out.2.2.size _).trans (hb1.mono (by have:=HK.out.2.2.size;simp;omega))
   clear hb1 g0 g1 g2 g3 g4 g5 g6 g7 g8
   go_wp2_with fail
   go_ret2
   exact ⟨rfl,HBF.out⟩
end Go.Proofs.YtccljifichaieaaDoor
