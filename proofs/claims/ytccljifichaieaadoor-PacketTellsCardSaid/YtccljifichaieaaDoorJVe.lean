/- Joined texts. Conditions: as each theorem lists them. -/
import Derived.Test.YtccljifichaieaaDoorJVd
set_option linter.unusedSimpArgs false
set_option linter.unusedVariables false
set_option maxRecDepth 100000
set_option maxHeartbeats 8000000
namespace Go.Proofs.YtccljifichaieaaDoor.Rv
open Go Go.RowKit
def badArg (num acked:Int):Prop:=acked < -1∨num≤acked∨num<0∨4611686018427387903<num
instance (num acked:Int):Decidable (badArg num acked):=by unfold badArg;infer_instance
def lpE (num acked:Int) (fs:List Fr):Int:=if badArg num acked then 1 else if allR fs=false then 1 else if 231 - (kN num acked:Int)<((layF fs).length:Int) then 9 else 0
/-- What a Lay of a packet tells. -/
def PkQ (key:Nat) (num acked:Int) (fs:List Fr) (w:World) (e:Ending) (w':World):Prop :=
 Below w.heap.size w w'∧(lpE num acked fs≠0→e=.returned (.tuple #[.slice none 0 0,.int .i64 (lpE num acked fs)])) ∧
 (lpE num acked fs=0→∃ A c,e=.returned (.tuple #[.slice A (kN num acked+9+(layF fs).length) c,.int .i64 0])∧w'.ownsRow w.heap.size 5 1 (.slice A (kN num acked+9+(layF fs).length) c) (kN num acked+9+(layF fs).length) (bv (packN key num acked (layF fs))))
theorem pkq_err {key:Nat} {num acked:Int} {fs:List Fr} {w w':World} {E:Int} (h:lpE num acked fs=E) (hE:E≠0) (hb:Below w.heap.size w w'):PkQ key num acked fs w (.returned (.tuple #[.slice none 0 0,.int .i64 E])) w' :=
 ⟨hb,fun _=>by rw [h],fun h2=>absurd (h.symm.trans h2) hE⟩
theorem hpk_any (key:Nat) (num acked:Int) (fs:List Fr) (A:Option Addr) (n c:Nat) (w:World) (ht:Tabs w) (h:Frs w A n c fs) (hb:∀ f ∈ fs,BoxF f) (hn:n≤100) (hk:key<2 ^ 64) :
  Calls Tryd.prog 7 #[.int .u64 (key:Int),.int .i64 num,.int .i64 acked,.slice A n c] w (PkQ key num acked fs w):=by
 by_cases hba:badArg num acked
 ·have hE:Hid (lpE num acked fs=1):=by show _=_;unfold lpE;rw [if_pos hba]
  unfold badArg at hba
  by_cases h1:acked < -1
  ·clear hba ht h hb
   go_enter Tryd.func7,Tryd.ntmps7
   go_wp2_with fail
   go_ret2
   exact pkq_err hE.out (by decide) (Below.refl _ _)
  ·by_cases h2:num≤acked
   ·clear hba ht h hb
    go_enter Tryd.func7,Tryd.ntmps7
    go_wp2_with fail
    go_ret2
    exact pkq_err hE.out (by decide) (Below.refl _ _)
   ·have h3:4611686018427387903<num:=by omega
    clear hba ht h hb
    go_enter Tryd.func7,Tryd.ntmps7
    go_wp2_with fail
    go_ret2
    exact pkq_err hE.out (by decide) (Below.refl _ _)
 ·have hba2:=hba
  unfold badArg at hba2
  cases ha:allR fs with
  | true =>
    refine (pkLay_any key num acked fs A n c w ht h (allR_ok h hb ha) hn hk (by omega) (by omega) (by omega)).mono ?_
    rintro e w' ⟨h1,h2,h3⟩
    have hE:lpE num acked fs=if 231 - (kN num acked:Int)<((layF fs).length:Int) then 9 else 0:=by unfold lpE;rw [if_neg hba,if_neg (by rw [ha];decide)]
    by_cases hl:231 - (kN num acked:Int)<((layF fs).length:Int)
    ·rw [if_pos hl] at hE
     rw [h3 hl]
     exact pkq_err hE (by decide) h1
    ·rw [if_neg hl] at hE
     exact ⟨h1,fun h=>absurd hE h,fun _=>h2 (by omega)⟩
  | false =>
    have hE:Hid (lpE num acked fs=1):=by show _=_;unfold lpE;rw [if_neg hba,if_pos ha]
    have HLB:=Lib.hid (hlay_any fs A n c w ht h hb hn)
    have HA:=Lib.hid ha
    have h1:¬ acked < -1:=by omega
    have h2:¬ num≤acked:=by omega
    have h3:¬ 4611686018427387903<num:=by omega
    clear ht h hb ha hba hba2
    go_enter Tryd.func7,Tryd.ntmps7
    go_wp2_with fail
    refine HLB.out.mono ?_
    rintro e w1 ⟨hb1,hx,_⟩
    have he:=hx HA.out
    subst he
    have HB:=Lib.hid hb1
    clear hb1 hx
    go_wp2_with fail
    go_ret2
    exact pkq_err hE.out (by decide) HB.out
theorem rpk_any (key:Nat) (num acked:Int) (fs:List Fr) (A:Option Addr) (n c:Nat) (w:World) (h:Frs w A n c fs) (hb:∀ f ∈ fs,BoxF f) (hn:n≤100) (hk:key<2 ^ 64) :
  Calls Tryd.prog 8 #[.int .u64 (key:Int),.int .i64 num,.int .i64 acked,.slice A n c] w (PkQ key num acked fs w):=by
 by_cases hba:badArg num acked
 ·have hE:Hid (lpE num acked fs=1):=by show _=_;unfold lpE;rw [if_pos hba]
  unfold badArg at hba
  by_cases hw:wid num=0
  ·have M:=Lib.hid (fun W=>may_f num W hw)
   clear hba h hb
   go_enter Tryd.func8,Tryd.ntmps8
   go_wp2_with (go_at_call 19;refine (M.out _).mono ?_;rintro e w' ⟨rfl,rfl⟩)
   go_ret2
   exact pkq_err hE.out (by decide) (Below.refl _ _)
  ·have M:=Lib.hid (fun W=>may_t num W hw)
   obtain ⟨n0,n1⟩:=wid_ok hw
   by_cases h1:acked < -1
   ·clear hba h hb n0 n1
    go_enter Tryd.func8,Tryd.ntmps8
    go_wp2_with (go_at_call 19;refine (M.out _).mono ?_;rintro e w' ⟨rfl,rfl⟩)
    go_ret2
    exact pkq_err hE.out (by decide) (Below.refl _ _)
   ·have h2:num≤acked:=by omega
    clear hba h hb n0 n1
    go_enter Tryd.func8,Tryd.ntmps8
    go_wp2_with (go_at_call 19;refine (M.out _).mono ?_;rintro e w' ⟨rfl,rfl⟩)
    go_ret2
    exact pkq_err hE.out (by decide) (Below.refl _ _)
 ·have hba2:=hba
  unfold badArg at hba2
  have M:=Lib.hid (fun W=>may_t num W (wid_in (by omega) (by omega)))
  have h1:¬ acked < -1:=by omega
  have h2:¬ num≤acked:=by omega
  have HLF:=Lib.hid (rlayF_any fs A n c w h hb hn)
  cases ha:allR fs with
  | false =>
    have hE:Hid (lpE num acked fs=1):=by show _=_;unfold lpE;rw [if_neg hba,if_pos ha]
    have HA:=Lib.hid ha
    clear h hb ha hba hba2
    go_enter Tryd.func8,Tryd.ntmps8
    go_wp2_with (first | (go_at_call 19;refine (M.out _).mono ?_;rintro e w' ⟨rfl,rfl⟩) | fail)
    refine HLF.out.mono ?_
    rintro e w1 ⟨hb1,hx,_⟩
    have he:=hx HA.out
    subst he
    have HB:=Lib.hid hb1
    clear hb1 hx
    go_wp2_with fail
    go_ret2
    exact pkq_err hE.out (by decide) HB.out
  | true =>
    have hEE:Hid (lpE num acked fs=if 231 - (kN num acked:Int)<((layF fs).length:Int) then 9 else 0):=by show _=_;unfold lpE;rw [if_neg hba,if_neg (by rw [ha];decide)]
    have HA:=Lib.hid ha
    have HBL:Hid (∀ x ∈ layF fs,x<256):=fun x hx=>by
     obtain ⟨f,hf,hx⟩:=List.mem_flatMap.1 hx
     exact encF_lt (allR_ok h hb ha f hf) x hx
    have HRO:=Lib.hid (fun W=>rroom_any num acked W (by omega) (by omega))
    have HBY:=Lib.hid (fun W=>Pn.rbytes_at num acked (kN num acked) (kN_eq num acked) W (by omega) (by omega))
    obtain ⟨k1,k4⟩:=kN_in num acked
    have HHO:=Lib.hid (fun W=>headOf_any num (kN num acked) W k1 k4 (by omega) (by omega))
    have HHL:=Lib.hid (headN_lt num (kN num acked) k4)
    have HPK:Hid (packN key num acked (layF fs)=headN num (kN num acked) ++ Sl.closeF key num (headN num (kN num acked)) (layF fs)):=rfl
    have HHN:=Lib.hid (headN_len num (kN num acked))
    have HQ:Hid (∀ e w',PkQ key num acked fs w e w'↔PkQ key num acked fs w e w'):=fun _ _=>Iff.rfl
    obtain ⟨body,hbody⟩:∃ x,Hid (layF fs=x):=⟨_,rfl⟩
    obtain ⟨k,hkk⟩:∃ x,Hid (kN num acked=x):=⟨_,rfl⟩
    rw [hbody.out] at hEE HBL HPK
    rw [hkk.out] at hEE HRO HBY HHO HHL HPK HHN k1 k4
    obtain ⟨hd,hhd⟩:∃ x,Hid (headN num k=x):=⟨_,rfl⟩
    rw [hhd.out] at HHO HHL HPK HHN
    obtain ⟨i0,hi,hz0,hz1,hz2⟩:=info_parts infoB
    have HI:=Lib.hid (And.intro hi (And.intro hz0 (And.intro hz1 hz2)))
    clear h hb ha hba hba2 hi hz0 hz1 hz2
    go_enter Tryd.func8,Tryd.ntmps8
    go_wp2_with (first | (go_at_call 19;refine (M.out _).mono ?_;rintro e w' ⟨rfl,rfl⟩) | fail)
    refine HLF.out.mono ?_
    rintro e w1 ⟨hb1,_,hx⟩
    obtain ⟨Ab,cb,rfl,hob⟩:=hx HA.out
    rw [hbody.out] at hob ⊢
    have HB1:=Lib.hid hb1
    have HOB:=Lib.hid hob
    obtain ⟨_,_,e1,hbc,_,_,hrb⟩:=own_form hob
    simp only [Value.slice.injEq] at e1
    obtain ⟨rfl,_,rfl⟩:=e1
    rw [Nat.mul_one] at hrb
    have HRB:=Lib.hid hrb
    have HBC:=Lib.hid hbc
    obtain ⟨L,hL⟩:∃ L,Hid (body.length=L):=⟨_,rfl⟩
    rw [hL.out] at hEE ⊢
    clear hb1 hx hob hrb hbc
    by_cases hl:231 - (k:Int)<(L:Int)
    ·have hE:Hid (lpE num acked fs=9):=by have:=hEE.out;rw [if_pos hl] at this;exact this
     go_wp2_with fail
     refine (HRO.out _).mono ?_;rintro e w' ⟨rfl,rfl⟩
     go_wp2_with fail
     go_ret2
     exact pkq_err hE.out (by decide) HB1.out
    ·have hE:Hid (lpE num acked fs=0):=by have:=hEE.out;rw [if_neg hl] at this;exact this
     have hL2:L≤231:=by omega
     go_wp2_with fail
     refine (HRO.out _).mono ?_;rintro e w' ⟨rfl,rfl⟩
     go_wp2_with fail
     refine (HBY.out _).mono ?_;rintro e w' ⟨rfl,rfl⟩
     go_wp2_with fail
     refine (HHO.out _).mono ?_
     rintro e w2 ⟨v2,rfl,ho2,hb2⟩
     obtain ⟨Ah,ch,rfl,hhc,_,_,hrh⟩:=own_form ho2
     rw [Nat.mul_one] at hrh
     have HB2:Hid (Below w.heap.size w w2):=HB1.out.trans (hb2.mono HB1.out.size)
     have HRB2:Hid (Rd w2 w2.heap.size Ab body.length (bv body)):=(HRB.out.below hb2 (Nat.le_refl _)).more hb2.size
     have HRH:Hid (Rd w2 w2.heap.size Ah (k+1) (bv hd)):=hrh
     have HHC:=Lib.hid hhc
     have HRH1:Hid (Rd w2 w2.heap.size Ah ((k+1) * 1) (bv hd)):=by show Rd _ _ _ _ _;rw [Nat.mul_one];exact hrh
     clear ho2 hb2 hrh hhc
     go_wp2_with (at_builtin;refine wpList_app _ rfl _ _ 24 rfl w.heap.size 5 i0 (.int .u8 0) 1 1 Tryd.underlying24 HI.out.1 HI.out.2.1 HI.out.2.2.1 HI.out.2.2.2 rfl (by decide) (.slice (some ⟨w2.heap.size,0,none⟩) 0 0) 0 [] rfl (own_new w2 #[] 5 1 0 _ _ rfl rfl (by unfold maxLen;omega) HB2.out.size) w2.heap.size Ah (k+1) ch (bv hd) rfl (HRH1.out.below ((Below.refl _ _).alloc (Nat.le_refl _) _) (Nat.le_refl _)) (ones_bv _) (by unfold maxLen;omega) (by omega) (by have:=HB2.out.size;simp;omega) ?_)
     intro v3 w3 ho3 hg3
     have HB3:Hid (Below w2.heap.size w2 w3):=((Below.refl _ _).alloc (Nat.le_refl _) _).grown hg3 (by simp) (fun j hj=>by simp [Value.ownBlock] at hj;omega)
     try simp only [Nat.zero_add,List.nil_append] at ho3
     obtain ⟨A3,c3,rfl,_,_,_,_⟩:=own_form ho3
     have HO3:=Lib.hid ho3
     have HBW3:Hid (Below w.heap.size w w3):=HB2.out.trans (HB3.out.mono HB2.out.size)
     have HP1:Hid (Sl.IsPart w3 w3.heap.size (.slice Ah (k+1) ch) hd):=⟨Ah,ch,by rw [HHN.out],by rw [HHN.out];exact (HRH.out.below HB3.out (Nat.le_refl _)).more HB3.out.size,by rw [HHN.out];exact HHC.out,by rw [HHN.out];omega,HHL.out⟩
     have HP2:Hid (Sl.IsPart w3 w3.heap.size (.slice Ab L cb) body):=⟨Ab,cb,by rw [hL.out],(HRB2.out.below HB3.out (Nat.le_refl _)).more HB3.out.size,HBC.out,by rw [hL.out];omega,HBL.out⟩
     have HCL:=Lib.hid (Sl.rclose_any key num hd body _ _ w3.heap.size w3 hk HP1.out HP2.out (Nat.le_refl _) (by rw [hL.out];omega))
     rw [hL.out] at HCL
     clear ho3 hg3
     go_wp2_with fail
     refine HCL.out.mono ?_
     rintro e w4 ⟨v4,rfl,ho4,hb4⟩
     obtain ⟨A4,c4,rfl,_,_,_,hr4⟩:=own_form ho4
     have HR4:=Lib.hid hr4
     have HO4:Hid (w4.ownsRow w.heap.size 5 1 (.slice A3 (k+1) c3) (k+1) (bv hd)):=own_below HO3.out hb4
     have HB4:Hid (Below w.heap.size w w4):=HBW3.out.trans (hb4.mono HBW3.out.size)
     clear ho4 hb4 hr4
     go_wp2_with (at_builtin;refine wpList_app _ rfl _ _ 24 rfl w.heap.size 5 i0 (.int .u8 0) 1 1 Tryd.underlying24 HI.out.1 HI.out.2.1 HI.out.2.2.1 HI.out.2.2.2 rfl (by decide) (.slice A3 (k+1) c3) (k+1) (bv hd) rfl HO4.out w4.heap.size A4 (L+8) c4 (bv (Sl.closeF key num hd body)) rfl HR4.out (ones_bv _) (by unfold maxLen;omega) (by omega) HB4.out.size ?_)
     intro v5 w5 ho5 hg5
     obtain ⟨A5,c5,rfl,_⟩:=own_form ho5
     have HFIN:Hid (PkQ key num acked fs w (.returned (.tuple #[.slice A5 (k+1+(L+8)) c5,.int .i64 0])) w5):=by
      refine ⟨HB4.out.grown hg5 HB4.out.size (fun g hg=>(HO4.out.lt g hg).1),fun h=>absurd hE.out h,fun _=>⟨A5,c5,?_,?_⟩⟩
      ·rw [hkk.out,hbody.out,hL.out,show k+9+L=k+1+(L+8) by omega]
      ·rw [hkk.out,hbody.out,hL.out,HPK.out,show k+9+L=k+1+(L+8) by omega,bv_app]
       exact ho5
     clear ho5 hg5
     go_wp2_with fail
     go_ret2
     exact HFIN.out
end Go.Proofs.YtccljifichaieaaDoor.Rv
