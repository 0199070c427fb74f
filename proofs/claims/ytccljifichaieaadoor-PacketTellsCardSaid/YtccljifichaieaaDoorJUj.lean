/- Joined texts. Conditions: as each theorem lists them. -/
import Derived.Test.YtccljifichaieaaDoorJUh
import Derived.Test.YtccljifichaieaaDoorJ10b
import Derived.Test.YtccljifichaieaaDoorJPnR
import Derived.Test.YtccljifichaieaaDoorJSlC
import Derived.BigGuard
import Derived.Deep.RegionHeld3
import Derived.Outline
set_option linter.unusedSimpArgs false
set_option linter.unusedVariables false
set_option maxRecDepth 100000
set_option maxHeartbeats 8000000
namespace Go.Proofs.YtccljifichaieaaDoor.Rv
open Go Go.RowKit
theorem hd_eq (b0 k:Nat) (r:List Nat) (hk:b0=k+63):hdN (b0 :: r)=b0 :: r.take k:=by
 unfold hdN
 simp only [List.getD_cons_zero]
 rw [show b0 - 62=k+1 by omega,List.take_succ_cons]
theorem sl_eq (b0 k:Nat) (r:List Nat) (hk:b0=k+63):slN (b0 :: r)=r.drop k:=by
 unfold slN
 simp only [List.getD_cons_zero]
 rw [show b0 - 62=k+1 by omega,List.drop_succ_cons]
theorem rpkRead_any (key:Nat) (next:Int) (bs:List Nat) (A:Option Addr) (c:Nat) (w:World) (hx:Rd w w.heap.size A bs.length (bv bs)) (hb:∀ z ∈ bs,z<256) (hc:bs.length≤c) (hm:bs.length≤1000000) (hk:key<2 ^ 64) :
  Calls Tryd.prog 15 #[.int .u64 (key:Int),.int .i64 next,.slice A bs.length c] w (RdP key next bs w):=by
 have HERR:Hid (∀ E:Int,E≠0→splitE bs=E→RdP key next bs w (.returned (.tuple #[.int .i64 0,.slice none 0 0,.int .i64 E])) w):=fun E h1 h2=>⟨Below.refl _ _,fun _=>by rw [h2],fun h=>absurd (h2.symm.trans h) h1,fun h=>absurd (h2.symm.trans h) h1,fun h=>absurd (h2.symm.trans h) h1⟩
 by_cases h0:bs.length=0
 ·have hs:Hid (splitE bs=3):=by show splitE bs=3;unfold splitE;rw [if_pos h0]
  rw [h0]
  clear hx hb hc h0
  go_enter Tryd.func15,Tryd.ntmps15
  go_wp2_with fail
  go_ret3
  exact HERR.out 3 (by decide) hs.out
 ·obtain ⟨b0,r,rfl⟩:=cons_of_len bs bs.length rfl (by omega)
  obtain ⟨b,off,rfl,hlt,hcell⟩:=hx.2 (by omega)
  have HC0:Hid (w.cell? ⟨b,off,none⟩=some (.int .u8 (b0:Int))):=hcell 0 _ rfl
  have hb0:=hb b0 (by simp)
  have HSE:Hid (splitE (b0 :: r)=if b0<64∨67<b0 then 2 else if (b0 :: r).length<b0 - 62+8 then 3 else 0):=by show _=_;unfold splitE;rw [if_neg h0];rfl
  have HX:=Lib.hid hx
  have HCE:Hid (∀ j,j<r.length→w.cell? ⟨b,off+(j+1),none⟩=some (.int .u8 ((r.getD j 0:Nat):Int))):=fun j hj=>hcell (j+1) _ (by simp [bv,List.getD,hj])
  have HBR:Hid (∀ z ∈ r,z<256):=fun z hz=>hb z (by simp [hz])
  have hrl:Hid ((b0 :: r).length=r.length+1):=by show _=_;simp
  obtain ⟨L,hL⟩:∃ L,Hid ((b0 :: r).length=L):=⟨_,rfl⟩
  rw [hL.out] at HSE hc hm h0 hrl HX ⊢
  have hL0:(0:Int)<(L:Int):=by omega
  have hLz:((L:Int) == 0)=false:=by simp;omega
  have hLc:(L:Int)≤(c:Int):=by omega
  clear hx hcell hb h0
  by_cases hlo:b0<64
  ·have hs:Hid (splitE (b0 :: r)=2):=by show splitE (b0 :: r)=2;rw [HSE.out,if_pos (.inl hlo)]
   have hloi:(b0:Int)<64:=by omega
   have hcc:=HC0.out
   clear hlo
   go_enter Tryd.func15,Tryd.ntmps15
   go_wp2_with fail
   go_ret3
   exact HERR.out 2 (by decide) hs.out
  by_cases hhi:67<b0
  ·have hs:Hid (splitE (b0 :: r)=2):=by show splitE (b0 :: r)=2;rw [HSE.out,if_pos (.inr hhi)]
   have hloi:¬ (b0:Int)<64:=by omega
   have hhii:(67:Int)<(b0:Int):=by omega
   have hcc:=HC0.out
   clear hlo hhi
   go_enter Tryd.func15,Tryd.ntmps15
   go_wp2_with fail
   go_ret3
   exact HERR.out 2 (by decide) hs.out
  have hcase:b0=64∨b0=65∨b0=66∨b0=67:=by omega
  clear hlo hhi hb0
  rcases hcase with rfl | rfl | rfl | rfl
  ·skip
   have hcc:w.cell? ⟨b,off,none⟩=some (.int .u8 64):=HC0.out
   by_cases hsh:L<10
   ·have hs:Hid (splitE (64 :: r)=3):=by show splitE (64 :: r)=3;rw [HSE.out,if_neg (by omega),if_pos (by omega)]
    have hshi:(L:Int)<10:=by omega
    clear hsh
    go_enter Tryd.func15,Tryd.ntmps15
    go_wp2_with fail
    go_ret3
    exact HERR.out 3 (by decide) hs.out
   ·have hE:splitE (64 :: r)=0:=by rw [HSE.out,if_neg (by omega),if_neg (by omega)]
    have hshi:¬ (L:Int)<10:=by omega
    have HR:Hid (∀ e w',Below w.heap.size w w' →
      (Sl.openB key (nmN (64 :: r) next) (hdN (64 :: r)) (slN (64 :: r))=false→e=.returned (.tuple #[.int .i64 0,.slice none 0 0,.int .i64 4])) →
      (Sl.openB key (nmN (64 :: r) next) (hdN (64 :: r)) (slN (64 :: r))=true→((readN (bdN key next (64 :: r)).length ⟨bdN key next (64 :: r),0⟩).2.e≠0∨(readN (bdN key next (64 :: r)).length ⟨bdN key next (64 :: r),0⟩).1=[])→e=.returned (.tuple #[.int .i64 (nmN (64 :: r) next),.slice none 0 0,.int .i64 11])) →
      (Sl.openB key (nmN (64 :: r) next) (hdN (64 :: r)) (slN (64 :: r))=true→(readN (bdN key next (64 :: r)).length ⟨bdN key next (64 :: r),0⟩).2.e=0→(readN (bdN key next (64 :: r)).length ⟨bdN key next (64 :: r),0⟩).1≠[]→∃ A c,e=.returned (.tuple #[.int .i64 (nmN (64 :: r) next),.slice A (readN (bdN key next (64 :: r)).length ⟨bdN key next (64 :: r),0⟩).1.length c,.int .i64 0])∧FrsOwn w' w.heap.size (.slice A (readN (bdN key next (64 :: r)).length ⟨bdN key next (64 :: r),0⟩).1.length c) (readN (bdN key next (64 :: r)).length ⟨bdN key next (64 :: r),0⟩).1) →
      RdP key next (64 :: r) w e w'):=fun e w' h1 h2 h3 h4=>⟨h1,fun h=>absurd hE h,fun _=>h2,fun _=>h3,fun _=>h4⟩
    have hhd:=hd_eq 64 1 r rfl
    have hsl:=sl_eq 64 1 r rfl
    unfold bdN at HR
    unfold nmN at HR
    rw [hhd,hsl] at HR
    simp only [List.drop_succ_cons,List.drop_zero] at HR
    have hdl:(r.take 1).length=1:=by rw [List.length_take];have:=hrl.out;omega
    have HSL:Hid ((r.drop 1).length=L - 2):=by show _=_;rw [List.length_drop];have:=hrl.out;omega
    have hP1:Sl.IsPart w w.heap.size (.slice (some ⟨b,off,none⟩) 2 c) (64 :: r.take 1):=by
     refine ⟨some ⟨b,off,none⟩,c,by simp [hdl],?_,by simp [hdl];omega,by simp [hdl],fun z hz=>?_⟩
     ·have:=HX.out.head 2 (by omega)
      rw [bv_take,List.take_succ_cons] at this
      rw [show (64 :: r.take 1).length=2 by simp [hdl]]
      exact this
     ·simp only [List.mem_cons] at hz
      rcases hz with rfl | hz
      ·decide
      ·exact HBR.out z (List.mem_of_mem_take hz)
    have hP2:Sl.IsPart w w.heap.size (.slice (some ⟨b,off+2,none⟩) (L - 2) (c - 2)) (r.drop 1):=by
     refine ⟨some ⟨b,off+2,none⟩,c - 2,by rw [HSL.out],?_,by rw [HSL.out];omega,by rw [HSL.out];omega,fun z hz=>HBR.out z (List.mem_of_mem_drop hz)⟩
     have:=HX.out.tail' 2 (by omega)
     rw [bv_drop,List.drop_succ_cons] at this
     rw [HSL.out]
     exact this
    have HCD:Hid (∀ j,j<1→w.cell? ⟨b,off+(j+1),none⟩=some (.int .u8 (((r.take 1).getD j 0:Nat):Int))):=fun j hj=>by
     rw [HCE.out j (by have:=hrl.out;omega)]
     congr 3
     simp only [List.getD,List.getElem?_take]
     rw [if_pos hj]
    have HDS:Hid (∀ z ∈ r.take 1,z<256):=fun z hz=>HBR.out z (List.mem_of_mem_take hz)
    obtain ⟨ds,hds⟩:∃ x,r.take 1=x:=⟨_,rfl⟩
    obtain ⟨sl,hsle⟩:∃ x,r.drop 1=x:=⟨_,rfl⟩
    rw [hds] at HR hdl hP1 HCD HDS
    rw [hsle] at HR HSL hP2
    rw [hdl] at HR
    have HDL:=Lib.hid hdl
    have HBK:=Lib.hid (fun W=>Pn.rback_any (valN ds:Int) (1:Int) next W)
    have HOP0:Hid (∀ num:Int,∀ W,Below w.heap.size w W→Calls Tryd.prog 38 #[.int .u64 (key:Int),.int .i64 num,(.slice (some ⟨b,off,none⟩) 2 c),(.slice (some ⟨b,off+2,none⟩) (L - 2) (c - 2))] W (Sl.Ans key num (64 :: ds) sl W)):=fun num W hW=>Sl.ropen_ans key num _ _ _ _ w.heap.size W hk (hP1.below hW (Nat.le_refl _)) (hP2.below hW (Nat.le_refl _)) hW.size
    have HLM:Hid (L≤1000000):=hm
    have hck:(2:Int)≤(c:Int):=by omega
    have hck2:(2:Int)≤(L:Int):=by omega
    have hck3:¬ c=2:=by omega
    have hwr:IntKind.i64.wrap 2=2:=by decide
    clear hE hsh hhd hsl hP1 hP2 hdl hds hsle
    go_enter Tryd.func15,Tryd.ntmps15
    go_wp2_with fail
    go_loop [10,11] (fun cut i=>∃ j:Nat,j≤1∧i=.int .i64 ((j:Int)+1)∧cut=.int .i64 ((valN (ds.take j):Nat):Int)) (fun _ i=>2 - (intOf i).toNat)
    case atStart=>exact ⟨0,by omega,by go_num,by simp [valN]⟩
    case round =>
     obtain ⟨j,hj,rfl,rfl⟩:=hrel
     by_cases hlt2:j<1
     ·obtain ⟨x,hx⟩:∃ x,Hid (ds.getD j 0=x):=⟨_,rfl⟩
      have hcj:w.cell? ⟨b,off+(j+1),none⟩=some (.int .u8 (x:Int)):=by rw [HCD.out j hlt2,hx.out]
      have hx256:x<256:=by have:=getD_lt HDS.out j;rw [hx.out] at this;exact this
      have hyl:=valN_lt (ds.take j) (fun z hz=>HDS.out z (List.mem_of_mem_take hz)) (by rw [List.length_take];omega)
      have hsn:Hid (valN (ds.take (j+1))=valN (ds.take j) * 256+x):=by show _=_;rw [take_snoc ds j (by have:=HDL.out;omega),valN_snoc,hx.out]
      obtain ⟨y,hy⟩:∃ y,Hid (valN (ds.take j)=y):=⟨_,rfl⟩
      rw [hy.out] at hyl hsn ⊢
      have hj1:(j:Int)+1≤1:=by omega
      have hj2:(j:Int)+1<(L:Int):=by omega
      go_wp2
      go_round
      case rel=>exact ⟨j+1,by omega,by go_num,by rw [hsn.out];exact congrArg (Value.int .i64) (by omega)⟩
      case measure=>simp [intOf];omega
     ·obtain rfl:j=1:=by omega
      have e:ds.take 1=ds:=List.take_of_length_le (by have:=HDL.out;omega)
      rw [e]
      clear e
      obtain ⟨num,hnum⟩:∃ x,Hid (Pn.backF (valN ds:Int) (1:Int) next=x):=⟨_,rfl⟩
      have HBK:=HBK
      rw [hnum.out] at HBK
      have hHR:=HR.out
      rw [show ((1:Nat):Int)=1 from rfl,hnum.out] at hHR
      have HR:=Lib.hid hHR
      have HOP:=Lib.hid (HOP0.out num)
      obtain ⟨vv,hvv⟩:∃ v,Hid ((valN ds:Int)=v):=⟨_,rfl⟩
      rw [hvv.out] at HBK ⊢
      clear hHR hnum
      go_wp2_with fail
      refine (HBK.out _).mono ?_;rintro e w' ⟨rfl,rfl⟩
      go_wp2_with fail
      refine wp_region_held_drew (S:=fun W'=>Below w.heap.size w W') (by kernel_rfl) ?_ (fun hHeld=>?_)
      ·exact (Below.refl _ _).drew
      refine wpAnyH_take (i:=0) (v:=?_) rfl (by kernel_rfl) (by kernel_rfl) (by kernel_rfl) (fun _ _ _ h=>h) (Or.inl ⟨by rfl,?_⟩) (by assumption) ?_
      rotate_left
      ·intro w hSw;(try dsimp only at hSw);go_simp;try with_reducible rfl
      go_simp
      refine wpAnyH_take (i:=1) (v:=?_) rfl (by kernel_rfl) (by kernel_rfl) (by kernel_rfl) (fun _ _ _ h=>h) (Or.inl ⟨by rfl,?_⟩) (by assumption) ?_
      rotate_left
      ·intro w hSw;(try dsimp only at hSw);go_simp;try with_reducible rfl
      go_simp
      refine wpAnyH_take (i:=2) (v:=?_) rfl (by kernel_rfl) (by kernel_rfl) (by kernel_rfl) (fun _ _ _ h=>h) (Or.inl ⟨by rfl,?_⟩) (by assumption) ?_
      rotate_left
      ·intro w hSw;(try dsimp only at hSw);go_simp;try with_reducible rfl
      go_simp
      refine wpAnyH_take (i:=3) (v:=?_) rfl (by kernel_rfl) (by kernel_rfl) (by kernel_rfl) (fun _ _ _ h=>h) (Or.inl ⟨by rfl,?_⟩) (by assumption) ?_
      rotate_left
      ·intro w hSw;(try dsimp only at hSw);go_simp;try with_reducible rfl
      go_simp
      refine wpAnyH_take (i:=4) (v:=?_) rfl (by kernel_rfl) (by kernel_rfl) (by kernel_rfl) (fun _ _ _ h=>h) (Or.inl ⟨by rfl,?_⟩) (by assumption) ?_
      rotate_left
      ·intro w hSw;(try dsimp only at hSw);go_simp;try with_reducible rfl
      go_simp
      refine wpAnyH_take (i:=5) (v:=?_) rfl (by kernel_rfl) (by kernel_rfl) (by kernel_rfl) (fun _ _ _ h=>h) (Or.inl ⟨by rfl,?_⟩) (by assumption) ?_
      rotate_left
      ·intro w hSw;(try dsimp only at hSw);go_simp;try with_reducible rfl
      go_simp
      refine wpAnyH_take (i:=6) (v:=?_) rfl (by kernel_rfl) (by kernel_rfl) (by kernel_rfl) (fun _ _ _ h=>h) (Or.inl ⟨by rfl,?_⟩) (by assumption) ?_
      rotate_left
      ·intro w hSw;(try dsimp only at hSw);go_simp;try with_reducible rfl
      go_simp
      refine wpAnyH_take (i:=7) (v:=?_) rfl (by kernel_rfl) (by kernel_rfl) (by kernel_rfl) (fun _ _ _ h=>h) (Or.inl ⟨by rfl,?_⟩) (by assumption) ?_
      rotate_left
      ·intro w hSw;(try dsimp only at hSw);go_simp;try with_reducible rfl
      go_simp
      refine wpAnyH_take (i:=8) (v:=?_) rfl (by kernel_rfl) (by kernel_rfl) (by kernel_rfl) (fun _ _ _ h=>h) (Or.inl ⟨by rfl,?_⟩) (by assumption) ?_
      rotate_left
      ·intro w hSw;(try dsimp only at hSw);go_simp;try with_reducible rfl
      go_simp
      refine wpAnyH_take (i:=9) (v:=?_) rfl (by kernel_rfl) (by kernel_rfl) (by kernel_rfl) (fun _ _ _ h=>h) (Or.inl ⟨by rfl,?_⟩) (by assumption) ?_
      rotate_left
      ·intro w hSw;(try dsimp only at hSw);go_simp;try with_reducible rfl
      go_simp
      refine wpAnyH_ready (rs:=[10]) (by kernel_rfl) (by simp) ?_
      refine AllReadyH.cons rfl (fun K hK=>?_) AllReadyH.nil
      go_simp
      refine (HOP.out _ (Below.refl _ _).drew).mono ?_
      rintro e w2 ⟨v2,rfl,hp2,hb2⟩
      have HP2:=Lib.hid hp2
      have HB2:Hid (Below w.heap.size w w2):=Below.trans (Below.refl _ _).drew (hb2.mono (Nat.le_refl w.heap.size))
      clear hp2 hb2
      refine hK.out _ _ ?_ (fun hHeld=>?_)
      ·exact HB2.out
      clear hK K
      go_simp
      refine wpAnyH_take (i:=11) (v:=?_) rfl (by kernel_rfl) (by kernel_rfl) (by kernel_rfl) (fun _ _ _ h=>h) (Or.inl ⟨by rfl,?_⟩) (by assumption) ?_
      rotate_left
      ·intro w hSw;(try dsimp only at hSw);go_simp;try with_reducible rfl
      go_simp
      refine wpAnyH_take (i:=12) (v:=?_) rfl (by kernel_rfl) (by kernel_rfl) (by kernel_rfl) (fun _ _ _ h=>h) (Or.inl ⟨by rfl,?_⟩) (by assumption) ?_
      rotate_left
      ·intro w hSw;(try dsimp only at hSw);go_simp;try with_reducible rfl
      go_simp
      refine wpAnyH_take (i:=13) (v:=?_) rfl (by kernel_rfl) (by kernel_rfl) (by kernel_rfl) (fun _ _ _ h=>h) (Or.inl ⟨by rfl,?_⟩) (by assumption) ?_
      rotate_left
      ·intro w hSw;(try dsimp only at hSw);go_simp;try with_reducible rfl
      go_simp
      refine wpAnyH_take (i:=14) (v:=?_) rfl (by kernel_rfl) (by kernel_rfl) (by kernel_rfl) (fun _ _ _ h=>h) (Or.inl ⟨by rfl,?_⟩) (by assumption) ?_
      rotate_left
      ·intro w hSw;(try dsimp only at hSw);go_simp;try with_reducible rfl
      go_simp
      refine wpAnyH_take (i:=15) (v:=?_) rfl (by kernel_rfl) (by kernel_rfl) (by kernel_rfl) (fun _ _ _ h=>h) (Or.inl ⟨by rfl,?_⟩) (by assumption) ?_
      rotate_left
      ·intro w hSw;(try dsimp only at hSw);go_simp;try with_reducible rfl
      go_simp
      refine wpAnyH_done (by kernel_rfl) ?_ _
      cases hok:Sl.openB key num (64 :: ds) sl with
      | false =>
        rw [hok] at HR
        clear hok
        go_wp2_with fail
        go_ret3
        exact HR.out _ _ HB2.out (fun _=>rfl) (fun h=>by cases h) (fun h=>by cases h)
      | true =>
        have hp:=HP2.out
        unfold Sl.ansF at hp
        rw [if_pos hok] at hp
        obtain ⟨Ab,cb,rfl,hrb,hbc,_,hblt⟩:=hp
        rw [hok] at HR
        have hbm:(Sl.maskN (Sl.stpN key (Sl.unN num)) (sl.take (sl.length - 8))).length≤1000000:=by rw [Sl.maskN_len,List.length_take];have:=HSL.out;omega
        obtain ⟨body,hbody⟩:∃ x,Sl.maskN (Sl.stpN key (Sl.unN num)) (sl.take (sl.length - 8))=x:=⟨_,rfl⟩
        rw [hbody] at hrb hbc hblt hbm HR ⊢
        have HRE:=Lib.hid (rframes_any body w2.heap.size Ab cb w2 hrb (Nat.le_refl _) hblt hbc hbm)
        obtain ⟨y,hy⟩:∃ y,readN body.length ⟨body,0⟩=y:=⟨_,rfl⟩
        rw [hy] at HRE HR
        obtain ⟨LB,hLB⟩:∃ L,Hid (body.length=L):=⟨_,rfl⟩
        rw [hLB.out] at HRE ⊢
        clear hok hrb hbc hblt hbm hy HP2 hbody
        go_wp2_with fail
        refine HRE.out.mono ?_
        rintro e w3 ⟨hb3,⟨hye,Ag,cg,rfl,hog⟩ | ⟨hye,er,her,rfl⟩⟩
        ·have HB3:Hid (Below w.heap.size w w3):=HB2.out.trans (hb3.mono HB2.out.size)
         have HOG:Hid (FrsOwn w3 w.heap.size (.slice Ag y.1.length cg) y.1):=by obtain ⟨cs,q1,q2⟩:=hog;exact ⟨cs,own_base q1 HB2.out.size,q2⟩
         clear hb3 hog
         by_cases hy0:y.1=[]
         ·have hy0':y.1.length=0:=by rw [hy0];rfl
          rw [hy0']
          go_wp2_with fail
          go_ret3
          exact HR.out _ _ HB3.out (fun h=>by cases h) (fun _ _=>rfl) (fun _ _ h=>absurd hy0 h)
         ·have hlp:0<y.1.length:=List.length_pos_iff.2 hy0
          have HY0:=Lib.hid hy0
          have HYE:=Lib.hid hye
          obtain ⟨LY,hLY⟩:∃ L,Hid (y.1.length=L):=⟨_,rfl⟩
          have hlp2:((LY:Int) == 0)=false:=by rw [← hLY.out];simp;omega
          have hlp3:¬ (LY:Int)=0:=by rw [← hLY.out];omega
          rw [hLY.out] at HR HOG ⊢
          clear hlp hy0 hye
          go_wp2_with fail
          go_ret3
          exact HR.out _ _ HB3.out (fun h=>by cases h) (fun _ h=>by rcases h with h | h;exact absurd HYE.out h;exact absurd h HY0.out) (fun _ _ _=>⟨Ag,cg,rfl,HOG.out⟩)
        ·have HB3:Hid (Below w.heap.size w w3):=HB2.out.trans (hb3.mono HB2.out.size)
         have hern:(er == 0)=false:=by simpa using her
         have HYE:=Lib.hid hye
         clear hb3 hye
         go_wp2_with fail
         go_ret3
         exact HR.out _ _ HB3.out (fun h=>by cases h) (fun _ _=>rfl) (fun _ h=>absurd h HYE.out)
  ·skip
   have hcc:w.cell? ⟨b,off,none⟩=some (.int .u8 65):=HC0.out
   by_cases hsh:L<11
   ·have hs:Hid (splitE (65 :: r)=3):=by show splitE (65 :: r)=3;rw [HSE.out,if_neg (by omega),if_pos (by omega)]
    have hshi:(L:Int)<11:=by omega
    clear hsh
    go_enter Tryd.func15,Tryd.ntmps15
    go_wp2_with fail
    go_ret3
    exact HERR.out 3 (by decide) hs.out
   ·have hE:splitE (65 :: r)=0:=by rw [HSE.out,if_neg (by omega),if_neg (by omega)]
    have hshi:¬ (L:Int)<11:=by omega
    have HR:Hid (∀ e w',Below w.heap.size w w' →
      (Sl.openB key (nmN (65 :: r) next) (hdN (65 :: r)) (slN (65 :: r))=false→e=.returned (.tuple #[.int .i64 0,.slice none 0 0,.int .i64 4])) →
      (Sl.openB key (nmN (65 :: r) next) (hdN (65 :: r)) (slN (65 :: r))=true→((readN (bdN key next (65 :: r)).length ⟨bdN key next (65 :: r),0⟩).2.e≠0∨(readN (bdN key next (65 :: r)).length ⟨bdN key next (65 :: r),0⟩).1=[])→e=.returned (.tuple #[.int .i64 (nmN (65 :: r) next),.slice none 0 0,.int .i64 11])) →
      (Sl.openB key (nmN (65 :: r) next) (hdN (65 :: r)) (slN (65 :: r))=true→(readN (bdN key next (65 :: r)).length ⟨bdN key next (65 :: r),0⟩).2.e=0→(readN (bdN key next (65 :: r)).length ⟨bdN key next (65 :: r),0⟩).1≠[]→∃ A c,e=.returned (.tuple #[.int .i64 (nmN (65 :: r) next),.slice A (readN (bdN key next (65 :: r)).length ⟨bdN key next (65 :: r),0⟩).1.length c,.int .i64 0])∧FrsOwn w' w.heap.size (.slice A (readN (bdN key next (65 :: r)).length ⟨bdN key next (65 :: r),0⟩).1.length c) (readN (bdN key next (65 :: r)).length ⟨bdN key next (65 :: r),0⟩).1) →
      RdP key next (65 :: r) w e w'):=fun e w' h1 h2 h3 h4=>⟨h1,fun h=>absurd hE h,fun _=>h2,fun _=>h3,fun _=>h4⟩
    have hhd:=hd_eq 65 2 r rfl
    have hsl:=sl_eq 65 2 r rfl
    unfold bdN at HR
    unfold nmN at HR
    rw [hhd,hsl] at HR
    simp only [List.drop_succ_cons,List.drop_zero] at HR
    have hdl:(r.take 2).length=2:=by rw [List.length_take];have:=hrl.out;omega
    have HSL:Hid ((r.drop 2).length=L - 3):=by show _=_;rw [List.length_drop];have:=hrl.out;omega
    have hP1:Sl.IsPart w w.heap.size (.slice (some ⟨b,off,none⟩) 3 c) (65 :: r.take 2):=by
     refine ⟨some ⟨b,off,none⟩,c,by simp [hdl],?_,by simp [hdl];omega,by simp [hdl],fun z hz=>?_⟩
     ·have:=HX.out.head 3 (by omega)
      rw [bv_take,List.take_succ_cons] at this
      rw [show (65 :: r.take 2).length=3 by simp [hdl]]
      exact this
     ·simp only [List.mem_cons] at hz
      rcases hz with rfl | hz
      ·decide
      ·exact HBR.out z (List.mem_of_mem_take hz)
    have hP2:Sl.IsPart w w.heap.size (.slice (some ⟨b,off+3,none⟩) (L - 3) (c - 3)) (r.drop 2):=by
     refine ⟨some ⟨b,off+3,none⟩,c - 3,by rw [HSL.out],?_,by rw [HSL.out];omega,by rw [HSL.out];omega,fun z hz=>HBR.out z (List.mem_of_mem_drop hz)⟩
     have:=HX.out.tail' 3 (by omega)
     rw [bv_drop,List.drop_succ_cons] at this
     rw [HSL.out]
     exact this
    have HCD:Hid (∀ j,j<2→w.cell? ⟨b,off+(j+1),none⟩=some (.int .u8 (((r.take 2).getD j 0:Nat):Int))):=fun j hj=>by
     rw [HCE.out j (by have:=hrl.out;omega)]
     congr 3
     simp only [List.getD,List.getElem?_take]
     rw [if_pos hj]
    have HDS:Hid (∀ z ∈ r.take 2,z<256):=fun z hz=>HBR.out z (List.mem_of_mem_take hz)
    obtain ⟨ds,hds⟩:∃ x,r.take 2=x:=⟨_,rfl⟩
    obtain ⟨sl,hsle⟩:∃ x,r.drop 2=x:=⟨_,rfl⟩
    rw [hds] at HR hdl hP1 HCD HDS
    rw [hsle] at HR HSL hP2
    rw [hdl] at HR
    have HDL:=Lib.hid hdl
    have HBK:=Lib.hid (fun W=>Pn.rback_any (valN ds:Int) (2:Int) next W)
    have HOP0:Hid (∀ num:Int,∀ W,Below w.heap.size w W→Calls Tryd.prog 38 #[.int .u64 (key:Int),.int .i64 num,(.slice (some ⟨b,off,none⟩) 3 c),(.slice (some ⟨b,off+3,none⟩) (L - 3) (c - 3))] W (Sl.Ans key num (65 :: ds) sl W)):=fun num W hW=>Sl.ropen_ans key num _ _ _ _ w.heap.size W hk (hP1.below hW (Nat.le_refl _)) (hP2.below hW (Nat.le_refl _)) hW.size
    have HLM:Hid (L≤1000000):=hm
    have hck:(3:Int)≤(c:Int):=by omega
    have hck2:(3:Int)≤(L:Int):=by omega
    have hck3:¬ c=3:=by omega
    have hwr:IntKind.i64.wrap 3=3:=by decide
    clear hE hsh hhd hsl hP1 hP2 hdl hds hsle
    go_enter Tryd.func15,Tryd.ntmps15
    go_wp2_with fail
    go_loop [10,11] (fun cut i=>∃ j:Nat,j≤2∧i=.int .i64 ((j:Int)+1)∧cut=.int .i64 ((valN (ds.take j):Nat):Int)) (fun _ i=>3 - (intOf i).toNat)
    case atStart=>exact ⟨0,by omega,by go_num,by simp [valN]⟩
    case round =>
     obtain ⟨j,hj,rfl,rfl⟩:=hrel
     by_cases hlt2:j<2
     ·obtain ⟨x,hx⟩:∃ x,Hid (ds.getD j 0=x):=⟨_,rfl⟩
      have hcj:w.cell? ⟨b,off+(j+1),none⟩=some (.int .u8 (x:Int)):=by rw [HCD.out j hlt2,hx.out]
      have hx256:x<256:=by have:=getD_lt HDS.out j;rw [hx.out] at this;exact this
      have hyl:=valN_lt (ds.take j) (fun z hz=>HDS.out z (List.mem_of_mem_take hz)) (by rw [List.length_take];omega)
      have hsn:Hid (valN (ds.take (j+1))=valN (ds.take j) * 256+x):=by show _=_;rw [take_snoc ds j (by have:=HDL.out;omega),valN_snoc,hx.out]
      obtain ⟨y,hy⟩:∃ y,Hid (valN (ds.take j)=y):=⟨_,rfl⟩
      rw [hy.out] at hyl hsn ⊢
      have hj1:(j:Int)+1≤2:=by omega
      have hj2:(j:Int)+1<(L:Int):=by omega
      go_wp2
      go_round
      case rel=>exact ⟨j+1,by omega,by go_num,by rw [hsn.out];exact congrArg (Value.int .i64) (by omega)⟩
      case measure=>simp [intOf];omega
     ·obtain rfl:j=2:=by omega
      have e:ds.take 2=ds:=List.take_of_length_le (by have:=HDL.out;omega)
      rw [e]
      clear e
      obtain ⟨num,hnum⟩:∃ x,Hid (Pn.backF (valN ds:Int) (2:Int) next=x):=⟨_,rfl⟩
      have HBK:=HBK
      rw [hnum.out] at HBK
      have hHR:=HR.out
      rw [show ((2:Nat):Int)=2 from rfl,hnum.out] at hHR
      have HR:=Lib.hid hHR
      have HOP:=Lib.hid (HOP0.out num)
      obtain ⟨vv,hvv⟩:∃ v,Hid ((valN ds:Int)=v):=⟨_,rfl⟩
      rw [hvv.out] at HBK ⊢
      clear hHR hnum
      go_wp2_with fail
      refine (HBK.out _).mono ?_;rintro e w' ⟨rfl,rfl⟩
      go_wp2_with fail
      refine wp_region_held_drew (S:=fun W'=>Below w.heap.size w W') (by kernel_rfl) ?_ (fun hHeld=>?_)
      ·exact (Below.refl _ _).drew
      refine wpAnyH_take (i:=0) (v:=?_) rfl (by kernel_rfl) (by kernel_rfl) (by kernel_rfl) (fun _ _ _ h=>h) (Or.inl ⟨by rfl,?_⟩) (by assumption) ?_
      rotate_left
      ·intro w hSw;(try dsimp only at hSw);go_simp;try with_reducible rfl
      go_simp
      refine wpAnyH_take (i:=1) (v:=?_) rfl (by kernel_rfl) (by kernel_rfl) (by kernel_rfl) (fun _ _ _ h=>h) (Or.inl ⟨by rfl,?_⟩) (by assumption) ?_
      rotate_left
      ·intro w hSw;(try dsimp only at hSw);go_simp;try with_reducible rfl
      go_simp
      refine wpAnyH_take (i:=2) (v:=?_) rfl (by kernel_rfl) (by kernel_rfl) (by kernel_rfl) (fun _ _ _ h=>h) (Or.inl ⟨by rfl,?_⟩) (by assumption) ?_
      rotate_left
      ·intro w hSw;(try dsimp only at hSw);go_simp;try with_reducible rfl
      go_simp
      refine wpAnyH_take (i:=3) (v:=?_) rfl (by kernel_rfl) (by kernel_rfl) (by kernel_rfl) (fun _ _ _ h=>h) (Or.inl ⟨by rfl,?_⟩) (by assumption) ?_
      rotate_left
      ·intro w hSw;(try dsimp only at hSw);go_simp;try with_reducible rfl
      go_simp
      refine wpAnyH_take (i:=4) (v:=?_) rfl (by kernel_rfl) (by kernel_rfl) (by kernel_rfl) (fun _ _ _ h=>h) (Or.inl ⟨by rfl,?_⟩) (by assumption) ?_
      rotate_left
      ·intro w hSw;(try dsimp only at hSw);go_simp;try with_reducible rfl
      go_simp
      refine wpAnyH_take (i:=5) (v:=?_) rfl (by kernel_rfl) (by kernel_rfl) (by kernel_rfl) (fun _ _ _ h=>h) (Or.inl ⟨by rfl,?_⟩) (by assumption) ?_
      rotate_left
      ·intro w hSw;(try dsimp only at hSw);go_simp;try with_reducible rfl
      go_simp
      refine wpAnyH_take (i:=6) (v:=?_) rfl (by kernel_rfl) (by kernel_rfl) (by kernel_rfl) (fun _ _ _ h=>h) (Or.inl ⟨by rfl,?_⟩) (by assumption) ?_
      rotate_left
      ·intro w hSw;(try dsimp only at hSw);go_simp;try with_reducible rfl
      go_simp
      refine wpAnyH_take (i:=7) (v:=?_) rfl (by kernel_rfl) (by kernel_rfl) (by kernel_rfl) (fun _ _ _ h=>h) (Or.inl ⟨by rfl,?_⟩) (by assumption) ?_
      rotate_left
      ·intro w hSw;(try dsimp only at hSw);go_simp;try with_reducible rfl
      go_simp
      refine wpAnyH_take (i:=8) (v:=?_) rfl (by kernel_rfl) (by kernel_rfl) (by kernel_rfl) (fun _ _ _ h=>h) (Or.inl ⟨by rfl,?_⟩) (by assumption) ?_
      rotate_left
      ·intro w hSw;(try dsimp only at hSw);go_simp;try with_reducible rfl
      go_simp
      refine wpAnyH_take (i:=9) (v:=?_) rfl (by kernel_rfl) (by kernel_rfl) (by kernel_rfl) (fun _ _ _ h=>h) (Or.inl ⟨by rfl,?_⟩) (by assumption) ?_
      rotate_left
      ·intro w hSw;(try dsimp only at hSw);go_simp;try with_reducible rfl
      go_simp
      refine wpAnyH_ready (rs:=[10]) (by kernel_rfl) (by simp) ?_
      refine AllReadyH.cons rfl (fun K hK=>?_) AllReadyH.nil
      go_simp
      refine (HOP.out _ (Below.refl _ _).drew).mono ?_
      rintro e w2 ⟨v2,rfl,hp2,hb2⟩
      have HP2:=Lib.hid hp2
      have HB2:Hid (Below w.heap.size w w2):=Below.trans (Below.refl _ _).drew (hb2.mono (Nat.le_refl w.heap.size))
      clear hp2 hb2
      refine hK.out _ _ ?_ (fun hHeld=>?_)
      ·exact HB2.out
      clear hK K
      go_simp
      refine wpAnyH_take (i:=11) (v:=?_) rfl (by kernel_rfl) (by kernel_rfl) (by kernel_rfl) (fun _ _ _ h=>h) (Or.inl ⟨by rfl,?_⟩) (by assumption) ?_
      rotate_left
      ·intro w hSw;(try dsimp only at hSw);go_simp;try with_reducible rfl
      go_simp
      refine wpAnyH_take (i:=12) (v:=?_) rfl (by kernel_rfl) (by kernel_rfl) (by kernel_rfl) (fun _ _ _ h=>h) (Or.inl ⟨by rfl,?_⟩) (by assumption) ?_
      rotate_left
      ·intro w hSw;(try dsimp only at hSw);go_simp;try with_reducible rfl
      go_simp
      refine wpAnyH_take (i:=13) (v:=?_) rfl (by kernel_rfl) (by kernel_rfl) (by kernel_rfl) (fun _ _ _ h=>h) (Or.inl ⟨by rfl,?_⟩) (by assumption) ?_
      rotate_left
      ·intro w hSw;(try dsimp only at hSw);go_simp;try with_reducible rfl
      go_simp
      refine wpAnyH_take (i:=14) (v:=?_) rfl (by kernel_rfl) (by kernel_rfl) (by kernel_rfl) (fun _ _ _ h=>h) (Or.inl ⟨by rfl,?_⟩) (by assumption) ?_
      rotate_left
      ·intro w hSw;(try dsimp only at hSw);go_simp;try with_reducible rfl
      go_simp
      refine wpAnyH_take (i:=15) (v:=?_) rfl (by kernel_rfl) (by kernel_rfl) (by kernel_rfl) (fun _ _ _ h=>h) (Or.inl ⟨by rfl,?_⟩) (by assumption) ?_
      rotate_left
      ·intro w hSw;(try dsimp only at hSw);go_simp;try with_reducible rfl
      go_simp
      refine wpAnyH_done (by kernel_rfl) ?_ _
      cases hok:Sl.openB key num (65 :: ds) sl with
      | false =>
        rw [hok] at HR
        clear hok
        go_wp2_with fail
        go_ret3
        exact HR.out _ _ HB2.out (fun _=>rfl) (fun h=>by cases h) (fun h=>by cases h)
      | true =>
        have hp:=HP2.out
        unfold Sl.ansF at hp
        rw [if_pos hok] at hp
        obtain ⟨Ab,cb,rfl,hrb,hbc,_,hblt⟩:=hp
        rw [hok] at HR
        have hbm:(Sl.maskN (Sl.stpN key (Sl.unN num)) (sl.take (sl.length - 8))).length≤1000000:=by rw [Sl.maskN_len,List.length_take];have:=HSL.out;omega
        obtain ⟨body,hbody⟩:∃ x,Sl.maskN (Sl.stpN key (Sl.unN num)) (sl.take (sl.length - 8))=x:=⟨_,rfl⟩
        rw [hbody] at hrb hbc hblt hbm HR ⊢
        have HRE:=Lib.hid (rframes_any body w2.heap.size Ab cb w2 hrb (Nat.le_refl _) hblt hbc hbm)
        obtain ⟨y,hy⟩:∃ y,readN body.length ⟨body,0⟩=y:=⟨_,rfl⟩
        rw [hy] at HRE HR
        obtain ⟨LB,hLB⟩:∃ L,Hid (body.length=L):=⟨_,rfl⟩
        rw [hLB.out] at HRE ⊢
        clear hok hrb hbc hblt hbm hy HP2 hbody
        go_wp2_with fail
        refine HRE.out.mono ?_
        rintro e w3 ⟨hb3,⟨hye,Ag,cg,rfl,hog⟩ | ⟨hye,er,her,rfl⟩⟩
        ·have HB3:Hid (Below w.heap.size w w3):=HB2.out.trans (hb3.mono HB2.out.size)
         have HOG:Hid (FrsOwn w3 w.heap.size (.slice Ag y.1.length cg) y.1):=by obtain ⟨cs,q1,q2⟩:=hog;exact ⟨cs,own_base q1 HB2.out.size,q2⟩
         clear hb3 hog
         by_cases hy0:y.1=[]
         ·have hy0':y.1.length=0:=by rw [hy0];rfl
          rw [hy0']
          go_wp2_with fail
          go_ret3
          exact HR.out _ _ HB3.out (fun h=>by cases h) (fun _ _=>rfl) (fun _ _ h=>absurd hy0 h)
         ·have hlp:0<y.1.length:=List.length_pos_iff.2 hy0
          have HY0:=Lib.hid hy0
          have HYE:=Lib.hid hye
          obtain ⟨LY,hLY⟩:∃ L,Hid (y.1.length=L):=⟨_,rfl⟩
          have hlp2:((LY:Int) == 0)=false:=by rw [← hLY.out];simp;omega
          have hlp3:¬ (LY:Int)=0:=by rw [← hLY.out];omega
          rw [hLY.out] at HR HOG ⊢
          clear hlp hy0 hye
          go_wp2_with fail
          go_ret3
          exact HR.out _ _ HB3.out (fun h=>by cases h) (fun _ h=>by rcases h with h | h;exact absurd HYE.out h;exact absurd h HY0.out) (fun _ _ _=>⟨Ag,cg,rfl,HOG.out⟩)
        ·have HB3:Hid (Below w.heap.size w w3):=HB2.out.trans (hb3.mono HB2.out.size)
         have hern:(er == 0)=false:=by simpa using her
         have HYE:=Lib.hid hye
         clear hb3 hye
         go_wp2_with fail
         go_ret3
         exact HR.out _ _ HB3.out (fun h=>by cases h) (fun _ _=>rfl) (fun _ h=>absurd h HYE.out)
  ·skip
   have hcc:w.cell? ⟨b,off,none⟩=some (.int .u8 66):=HC0.out
   by_cases hsh:L<12
   ·have hs:Hid (splitE (66 :: r)=3):=by show splitE (66 :: r)=3;rw [HSE.out,if_neg (by omega),if_pos (by omega)]
    have hshi:(L:Int)<12:=by omega
    clear hsh
    go_enter Tryd.func15,Tryd.ntmps15
    go_wp2_with fail
    go_ret3
    exact HERR.out 3 (by decide) hs.out
   ·have hE:splitE (66 :: r)=0:=by rw [HSE.out,if_neg (by omega),if_neg (by omega)]
    have hshi:¬ (L:Int)<12:=by omega
    have HR:Hid (∀ e w',Below w.heap.size w w' →
      (Sl.openB key (nmN (66 :: r) next) (hdN (66 :: r)) (slN (66 :: r))=false→e=.returned (.tuple #[.int .i64 0,.slice none 0 0,.int .i64 4])) →
      (Sl.openB key (nmN (66 :: r) next) (hdN (66 :: r)) (slN (66 :: r))=true→((readN (bdN key next (66 :: r)).length ⟨bdN key next (66 :: r),0⟩).2.e≠0∨(readN (bdN key next (66 :: r)).length ⟨bdN key next (66 :: r),0⟩).1=[])→e=.returned (.tuple #[.int .i64 (nmN (66 :: r) next),.slice none 0 0,.int .i64 11])) →
      (Sl.openB key (nmN (66 :: r) next) (hdN (66 :: r)) (slN (66 :: r))=true→(readN (bdN key next (66 :: r)).length ⟨bdN key next (66 :: r),0⟩).2.e=0→(readN (bdN key next (66 :: r)).length ⟨bdN key next (66 :: r),0⟩).1≠[]→∃ A c,e=.returned (.tuple #[.int .i64 (nmN (66 :: r) next),.slice A (readN (bdN key next (66 :: r)).length ⟨bdN key next (66 :: r),0⟩).1.length c,.int .i64 0])∧FrsOwn w' w.heap.size (.slice A (readN (bdN key next (66 :: r)).length ⟨bdN key next (66 :: r),0⟩).1.length c) (readN (bdN key next (66 :: r)).length ⟨bdN key next (66 :: r),0⟩).1) →
      RdP key next (66 :: r) w e w'):=fun e w' h1 h2 h3 h4=>⟨h1,fun h=>absurd hE h,fun _=>h2,fun _=>h3,fun _=>h4⟩
    have hhd:=hd_eq 66 3 r rfl
    have hsl:=sl_eq 66 3 r rfl
    unfold bdN at HR
    unfold nmN at HR
    rw [hhd,hsl] at HR
    simp only [List.drop_succ_cons,List.drop_zero] at HR
    have hdl:(r.take 3).length=3:=by rw [List.length_take];have:=hrl.out;omega
    have HSL:Hid ((r.drop 3).length=L - 4):=by show _=_;rw [List.length_drop];have:=hrl.out;omega
    have hP1:Sl.IsPart w w.heap.size (.slice (some ⟨b,off,none⟩) 4 c) (66 :: r.take 3):=by
     refine ⟨some ⟨b,off,none⟩,c,by simp [hdl],?_,by simp [hdl];omega,by simp [hdl],fun z hz=>?_⟩
     ·have:=HX.out.head 4 (by omega)
      rw [bv_take,List.take_succ_cons] at this
      rw [show (66 :: r.take 3).length=4 by simp [hdl]]
      exact this
     ·simp only [List.mem_cons] at hz
      rcases hz with rfl | hz
      ·decide
      ·exact HBR.out z (List.mem_of_mem_take hz)
    have hP2:Sl.IsPart w w.heap.size (.slice (some ⟨b,off+4,none⟩) (L - 4) (c - 4)) (r.drop 3):=by
     refine ⟨some ⟨b,off+4,none⟩,c - 4,by rw [HSL.out],?_,by rw [HSL.out];omega,by rw [HSL.out];omega,fun z hz=>HBR.out z (List.mem_of_mem_drop hz)⟩
     have:=HX.out.tail' 4 (by omega)
     rw [bv_drop,List.drop_succ_cons] at this
     rw [HSL.out]
     exact this
    have HCD:Hid (∀ j,j<3→w.cell? ⟨b,off+(j+1),none⟩=some (.int .u8 (((r.take 3).getD j 0:Nat):Int))):=fun j hj=>by
     rw [HCE.out j (by have:=hrl.out;omega)]
     congr 3
     simp only [List.getD,List.getElem?_take]
     rw [if_pos hj]
    have HDS:Hid (∀ z ∈ r.take 3,z<256):=fun z hz=>HBR.out z (List.mem_of_mem_take hz)
    obtain ⟨ds,hds⟩:∃ x,r.take 3=x:=⟨_,rfl⟩
    obtain ⟨sl,hsle⟩:∃ x,r.drop 3=x:=⟨_,rfl⟩
    rw [hds] at HR hdl hP1 HCD HDS
    rw [hsle] at HR HSL hP2
    rw [hdl] at HR
    have HDL:=Lib.hid hdl
    have HBK:=Lib.hid (fun W=>Pn.rback_any (valN ds:Int) (3:Int) next W)
    have HOP0:Hid (∀ num:Int,∀ W,Below w.heap.size w W→Calls Tryd.prog 38 #[.int .u64 (key:Int),.int .i64 num,(.slice (some ⟨b,off,none⟩) 4 c),(.slice (some ⟨b,off+4,none⟩) (L - 4) (c - 4))] W (Sl.Ans key num (66 :: ds) sl W)):=fun num W hW=>Sl.ropen_ans key num _ _ _ _ w.heap.size W hk (hP1.below hW (Nat.le_refl _)) (hP2.below hW (Nat.le_refl _)) hW.size
    have HLM:Hid (L≤1000000):=hm
    have hck:(4:Int)≤(c:Int):=by omega
    have hck2:(4:Int)≤(L:Int):=by omega
    have hck3:¬ c=4:=by omega
    have hwr:IntKind.i64.wrap 4=4:=by decide
    clear hE hsh hhd hsl hP1 hP2 hdl hds hsle
    go_enter Tryd.func15,Tryd.ntmps15
    go_wp2_with fail
    go_loop [10,11] (fun cut i=>∃ j:Nat,j≤3∧i=.int .i64 ((j:Int)+1)∧cut=.int .i64 ((valN (ds.take j):Nat):Int)) (fun _ i=>4 - (intOf i).toNat)
    case atStart=>exact ⟨0,by omega,by go_num,by simp [valN]⟩
    case round =>
     obtain ⟨j,hj,rfl,rfl⟩:=hrel
     by_cases hlt2:j<3
     ·obtain ⟨x,hx⟩:∃ x,Hid (ds.getD j 0=x):=⟨_,rfl⟩
      have hcj:w.cell? ⟨b,off+(j+1),none⟩=some (.int .u8 (x:Int)):=by rw [HCD.out j hlt2,hx.out]
      have hx256:x<256:=by have:=getD_lt HDS.out j;rw [hx.out] at this;exact this
      have hyl:=valN_lt (ds.take j) (fun z hz=>HDS.out z (List.mem_of_mem_take hz)) (by rw [List.length_take];omega)
      have hsn:Hid (valN (ds.take (j+1))=valN (ds.take j) * 256+x):=by show _=_;rw [take_snoc ds j (by have:=HDL.out;omega),valN_snoc,hx.out]
      obtain ⟨y,hy⟩:∃ y,Hid (valN (ds.take j)=y):=⟨_,rfl⟩
      rw [hy.out] at hyl hsn ⊢
      have hj1:(j:Int)+1≤3:=by omega
      have hj2:(j:Int)+1<(L:Int):=by omega
      go_wp2
      go_round
      case rel=>exact ⟨j+1,by omega,by go_num,by rw [hsn.out];exact congrArg (Value.int .i64) (by omega)⟩
      case measure=>simp [intOf];omega
     ·obtain rfl:j=3:=by omega
      have e:ds.take 3=ds:=List.take_of_length_le (by have:=HDL.out;omega)
      rw [e]
      clear e
      obtain ⟨num,hnum⟩:∃ x,Hid (Pn.backF (valN ds:Int) (3:Int) next=x):=⟨_,rfl⟩
      have HBK:=HBK
      rw [hnum.out] at HBK
      have hHR:=HR.out
      rw [show ((3:Nat):Int)=3 from rfl,hnum.out] at hHR
      have HR:=Lib.hid hHR
      have HOP:=Lib.hid (HOP0.out num)
      obtain ⟨vv,hvv⟩:∃ v,Hid ((valN ds:Int)=v):=⟨_,rfl⟩
      rw [hvv.out] at HBK ⊢
      clear hHR hnum
      go_wp2_with fail
      refine (HBK.out _).mono ?_;rintro e w' ⟨rfl,rfl⟩
      go_wp2_with fail
      refine wp_region_held_drew (S:=fun W'=>Below w.heap.size w W') (by kernel_rfl) ?_ (fun hHeld=>?_)
      ·exact (Below.refl _ _).drew
      refine wpAnyH_take (i:=0) (v:=?_) rfl (by kernel_rfl) (by kernel_rfl) (by kernel_rfl) (fun _ _ _ h=>h) (Or.inl ⟨by rfl,?_⟩) (by assumption) ?_
      rotate_left
      ·intro w hSw;(try dsimp only at hSw);go_simp;try with_reducible rfl
      go_simp
      refine wpAnyH_take (i:=1) (v:=?_) rfl (by kernel_rfl) (by kernel_rfl) (by kernel_rfl) (fun _ _ _ h=>h) (Or.inl ⟨by rfl,?_⟩) (by assumption) ?_
      rotate_left
      ·intro w hSw;(try dsimp only at hSw);go_simp;try with_reducible rfl
      go_simp
      refine wpAnyH_take (i:=2) (v:=?_) rfl (by kernel_rfl) (by kernel_rfl) (by kernel_rfl) (fun _ _ _ h=>h) (Or.inl ⟨by rfl,?_⟩) (by assumption) ?_
      rotate_left
      ·intro w hSw;(try dsimp only at hSw);go_simp;try with_reducible rfl
      go_simp
      refine wpAnyH_take (i:=3) (v:=?_) rfl (by kernel_rfl) (by kernel_rfl) (by kernel_rfl) (fun _ _ _ h=>h) (Or.inl ⟨by rfl,?_⟩) (by assumption) ?_
      rotate_left
      ·intro w hSw;(try dsimp only at hSw);go_simp;try with_reducible rfl
      go_simp
      refine wpAnyH_take (i:=4) (v:=?_) rfl (by kernel_rfl) (by kernel_rfl) (by kernel_rfl) (fun _ _ _ h=>h) (Or.inl ⟨by rfl,?_⟩) (by assumption) ?_
      rotate_left
      ·intro w hSw;(try dsimp only at hSw);go_simp;try with_reducible rfl
      go_simp
      refine wpAnyH_take (i:=5) (v:=?_) rfl (by kernel_rfl) (by kernel_rfl) (by kernel_rfl) (fun _ _ _ h=>h) (Or.inl ⟨by rfl,?_⟩) (by assumption) ?_
      rotate_left
      ·intro w hSw;(try dsimp only at hSw);go_simp;try with_reducible rfl
      go_simp
      refine wpAnyH_take (i:=6) (v:=?_) rfl (by kernel_rfl) (by kernel_rfl) (by kernel_rfl) (fun _ _ _ h=>h) (Or.inl ⟨by rfl,?_⟩) (by assumption) ?_
      rotate_left
      ·intro w hSw;(try dsimp only at hSw);go_simp;try with_reducible rfl
      go_simp
      refine wpAnyH_take (i:=7) (v:=?_) rfl (by kernel_rfl) (by kernel_rfl) (by kernel_rfl) (fun _ _ _ h=>h) (Or.inl ⟨by rfl,?_⟩) (by assumption) ?_
      rotate_left
      ·intro w hSw;(try dsimp only at hSw);go_simp;try with_reducible rfl
      go_simp
      refine wpAnyH_take (i:=8) (v:=?_) rfl (by kernel_rfl) (by kernel_rfl) (by kernel_rfl) (fun _ _ _ h=>h) (Or.inl ⟨by rfl,?_⟩) (by assumption) ?_
      rotate_left
      ·intro w hSw;(try dsimp only at hSw);go_simp;try with_reducible rfl
      go_simp
      refine wpAnyH_take (i:=9) (v:=?_) rfl (by kernel_rfl) (by kernel_rfl) (by kernel_rfl) (fun _ _ _ h=>h) (Or.inl ⟨by rfl,?_⟩) (by assumption) ?_
      rotate_left
      ·intro w hSw;(try dsimp only at hSw);go_simp;try with_reducible rfl
      go_simp
      refine wpAnyH_ready (rs:=[10]) (by kernel_rfl) (by simp) ?_
      refine AllReadyH.cons rfl (fun K hK=>?_) AllReadyH.nil
      go_simp
      refine (HOP.out _ (Below.refl _ _).drew).mono ?_
      rintro e w2 ⟨v2,rfl,hp2,hb2⟩
      have HP2:=Lib.hid hp2
      have HB2:Hid (Below w.heap.size w w2):=Below.trans (Below.refl _ _).drew (hb2.mono (Nat.le_refl w.heap.size))
      clear hp2 hb2
      refine hK.out _ _ ?_ (fun hHeld=>?_)
      ·exact HB2.out
      clear hK K
      go_simp
      refine wpAnyH_take (i:=11) (v:=?_) rfl (by kernel_rfl) (by kernel_rfl) (by kernel_rfl) (fun _ _ _ h=>h) (Or.inl ⟨by rfl,?_⟩) (by assumption) ?_
      rotate_left
      ·intro w hSw;(try dsimp only at hSw);go_simp;try with_reducible rfl
      go_simp
      refine wpAnyH_take (i:=12) (v:=?_) rfl (by kernel_rfl) (by kernel_rfl) (by kernel_rfl) (fun _ _ _ h=>h) (Or.inl ⟨by rfl,?_⟩) (by assumption) ?_
      rotate_left
      ·intro w hSw;(try dsimp only at hSw);go_simp;try with_reducible rfl
      go_simp
      refine wpAnyH_take (i:=13) (v:=?_) rfl (by kernel_rfl) (by kernel_rfl) (by kernel_rfl) (fun _ _ _ h=>h) (Or.inl ⟨by rfl,?_⟩) (by assumption) ?_
      rotate_left
      ·intro w hSw;(try dsimp only at hSw);go_simp;try with_reducible rfl
      go_simp
      refine wpAnyH_take (i:=14) (v:=?_) rfl (by kernel_rfl) (by kernel_rfl) (by kernel_rfl) (fun _ _ _ h=>h) (Or.inl ⟨by rfl,?_⟩) (by assumption) ?_
      rotate_left
      ·intro w hSw;(try dsimp only at hSw);go_simp;try with_reducible rfl
      go_simp
      refine wpAnyH_take (i:=15) (v:=?_) rfl (by kernel_rfl) (by kernel_rfl) (by kernel_rfl) (fun _ _ _ h=>h) (Or.inl ⟨by rfl,?_⟩) (by assumption) ?_
      rotate_left
      ·intro w hSw;(try dsimp only at hSw);go_simp;try with_reducible rfl
      go_simp
      refine wpAnyH_done (by kernel_rfl) ?_ _
      cases hok:Sl.openB key num (66 :: ds) sl with
      | false =>
        rw [hok] at HR
        clear hok
        go_wp2_with fail
        go_ret3
        exact HR.out _ _ HB2.out (fun _=>rfl) (fun h=>by cases h) (fun h=>by cases h)
      | true =>
        have hp:=HP2.out
        unfold Sl.ansF at hp
        rw [if_pos hok] at hp
        obtain ⟨Ab,cb,rfl,hrb,hbc,_,hblt⟩:=hp
        rw [hok] at HR
        have hbm:(Sl.maskN (Sl.stpN key (Sl.unN num)) (sl.take (sl.length - 8))).length≤1000000:=by rw [Sl.maskN_len,List.length_take];have:=HSL.out;omega
        obtain ⟨body,hbody⟩:∃ x,Sl.maskN (Sl.stpN key (Sl.unN num)) (sl.take (sl.length - 8))=x:=⟨_,rfl⟩
        rw [hbody] at hrb hbc hblt hbm HR ⊢
        have HRE:=Lib.hid (rframes_any body w2.heap.size Ab cb w2 hrb (Nat.le_refl _) hblt hbc hbm)
        obtain ⟨y,hy⟩:∃ y,readN body.length ⟨body,0⟩=y:=⟨_,rfl⟩
        rw [hy] at HRE HR
        obtain ⟨LB,hLB⟩:∃ L,Hid (body.length=L):=⟨_,rfl⟩
        rw [hLB.out] at HRE ⊢
        clear hok hrb hbc hblt hbm hy HP2 hbody
        go_wp2_with fail
        refine HRE.out.mono ?_
        rintro e w3 ⟨hb3,⟨hye,Ag,cg,rfl,hog⟩ | ⟨hye,er,her,rfl⟩⟩
        ·have HB3:Hid (Below w.heap.size w w3):=HB2.out.trans (hb3.mono HB2.out.size)
         have HOG:Hid (FrsOwn w3 w.heap.size (.slice Ag y.1.length cg) y.1):=by obtain ⟨cs,q1,q2⟩:=hog;exact ⟨cs,own_base q1 HB2.out.size,q2⟩
         clear hb3 hog
         by_cases hy0:y.1=[]
         ·have hy0':y.1.length=0:=by rw [hy0];rfl
          rw [hy0']
          go_wp2_with fail
          go_ret3
          exact HR.out _ _ HB3.out (fun h=>by cases h) (fun _ _=>rfl) (fun _ _ h=>absurd hy0 h)
         ·have hlp:0<y.1.length:=List.length_pos_iff.2 hy0
          have HY0:=Lib.hid hy0
          have HYE:=Lib.hid hye
          obtain ⟨LY,hLY⟩:∃ L,Hid (y.1.length=L):=⟨_,rfl⟩
          have hlp2:((LY:Int) == 0)=false:=by rw [← hLY.out];simp;omega
          have hlp3:¬ (LY:Int)=0:=by rw [← hLY.out];omega
          rw [hLY.out] at HR HOG ⊢
          clear hlp hy0 hye
          go_wp2_with fail
          go_ret3
          exact HR.out _ _ HB3.out (fun h=>by cases h) (fun _ h=>by rcases h with h | h;exact absurd HYE.out h;exact absurd h HY0.out) (fun _ _ _=>⟨Ag,cg,rfl,HOG.out⟩)
        ·have HB3:Hid (Below w.heap.size w w3):=HB2.out.trans (hb3.mono HB2.out.size)
         have hern:(er == 0)=false:=by simpa using her
         have HYE:=Lib.hid hye
         clear hb3 hye
         go_wp2_with fail
         go_ret3
         exact HR.out _ _ HB3.out (fun h=>by cases h) (fun _ _=>rfl) (fun _ h=>absurd h HYE.out)
  ·skip
   have hcc:w.cell? ⟨b,off,none⟩=some (.int .u8 67):=HC0.out
   by_cases hsh:L<13
   ·have hs:Hid (splitE (67 :: r)=3):=by show splitE (67 :: r)=3;rw [HSE.out,if_neg (by omega),if_pos (by omega)]
    have hshi:(L:Int)<13:=by omega
    clear hsh
    go_enter Tryd.func15,Tryd.ntmps15
    go_wp2_with fail
    go_ret3
    exact HERR.out 3 (by decide) hs.out
   ·have hE:splitE (67 :: r)=0:=by rw [HSE.out,if_neg (by omega),if_neg (by omega)]
    have hshi:¬ (L:Int)<13:=by omega
    have HR:Hid (∀ e w',Below w.heap.size w w' →
      (Sl.openB key (nmN (67 :: r) next) (hdN (67 :: r)) (slN (67 :: r))=false→e=.returned (.tuple #[.int .i64 0,.slice none 0 0,.int .i64 4])) →
      (Sl.openB key (nmN (67 :: r) next) (hdN (67 :: r)) (slN (67 :: r))=true→((readN (bdN key next (67 :: r)).length ⟨bdN key next (67 :: r),0⟩).2.e≠0∨(readN (bdN key next (67 :: r)).length ⟨bdN key next (67 :: r),0⟩).1=[])→e=.returned (.tuple #[.int .i64 (nmN (67 :: r) next),.slice none 0 0,.int .i64 11])) →
      (Sl.openB key (nmN (67 :: r) next) (hdN (67 :: r)) (slN (67 :: r))=true→(readN (bdN key next (67 :: r)).length ⟨bdN key next (67 :: r),0⟩).2.e=0→(readN (bdN key next (67 :: r)).length ⟨bdN key next (67 :: r),0⟩).1≠[]→∃ A c,e=.returned (.tuple #[.int .i64 (nmN (67 :: r) next),.slice A (readN (bdN key next (67 :: r)).length ⟨bdN key next (67 :: r),0⟩).1.length c,.int .i64 0])∧FrsOwn w' w.heap.size (.slice A (readN (bdN key next (67 :: r)).length ⟨bdN key next (67 :: r),0⟩).1.length c) (readN (bdN key next (67 :: r)).length ⟨bdN key next (67 :: r),0⟩).1) →
      RdP key next (67 :: r) w e w'):=fun e w' h1 h2 h3 h4=>⟨h1,fun h=>absurd hE h,fun _=>h2,fun _=>h3,fun _=>h4⟩
    have hhd:=hd_eq 67 4 r rfl
    have hsl:=sl_eq 67 4 r rfl
    unfold bdN at HR
    unfold nmN at HR
    rw [hhd,hsl] at HR
    simp only [List.drop_succ_cons,List.drop_zero] at HR
    have hdl:(r.take 4).length=4:=by rw [List.length_take];have:=hrl.out;omega
    have HSL:Hid ((r.drop 4).length=L - 5):=by show _=_;rw [List.length_drop];have:=hrl.out;omega
    have hP1:Sl.IsPart w w.heap.size (.slice (some ⟨b,off,none⟩) 5 c) (67 :: r.take 4):=by
     refine ⟨some ⟨b,off,none⟩,c,by simp [hdl],?_,by simp [hdl];omega,by simp [hdl],fun z hz=>?_⟩
     ·have:=HX.out.head 5 (by omega)
      rw [bv_take,List.take_succ_cons] at this
      rw [show (67 :: r.take 4).length=5 by simp [hdl]]
      exact this
     ·simp only [List.mem_cons] at hz
      rcases hz with rfl | hz
      ·decide
      ·exact HBR.out z (List.mem_of_mem_take hz)
    have hP2:Sl.IsPart w w.heap.size (.slice (some ⟨b,off+5,none⟩) (L - 5) (c - 5)) (r.drop 4):=by
     refine ⟨some ⟨b,off+5,none⟩,c - 5,by rw [HSL.out],?_,by rw [HSL.out];omega,by rw [HSL.out];omega,fun z hz=>HBR.out z (List.mem_of_mem_drop hz)⟩
     have:=HX.out.tail' 5 (by omega)
     rw [bv_drop,List.drop_succ_cons] at this
     rw [HSL.out]
     exact this
    have HCD:Hid (∀ j,j<4→w.cell? ⟨b,off+(j+1),none⟩=some (.int .u8 (((r.take 4).getD j 0:Nat):Int))):=fun j hj=>by
     rw [HCE.out j (by have:=hrl.out;omega)]
     congr 3
     simp only [List.getD,List.getElem?_take]
     rw [if_pos hj]
    have HDS:Hid (∀ z ∈ r.take 4,z<256):=fun z hz=>HBR.out z (List.mem_of_mem_take hz)
    obtain ⟨ds,hds⟩:∃ x,r.take 4=x:=⟨_,rfl⟩
    obtain ⟨sl,hsle⟩:∃ x,r.drop 4=x:=⟨_,rfl⟩
    rw [hds] at HR hdl hP1 HCD HDS
    rw [hsle] at HR HSL hP2
    rw [hdl] at HR
    have HDL:=Lib.hid hdl
    have HBK:=Lib.hid (fun W=>Pn.rback_any (valN ds:Int) (4:Int) next W)
    have HOP0:Hid (∀ num:Int,∀ W,Below w.heap.size w W→Calls Tryd.prog 38 #[.int .u64 (key:Int),.int .i64 num,(.slice (some ⟨b,off,none⟩) 5 c),(.slice (some ⟨b,off+5,none⟩) (L - 5) (c - 5))] W (Sl.Ans key num (67 :: ds) sl W)):=fun num W hW=>Sl.ropen_ans key num _ _ _ _ w.heap.size W hk (hP1.below hW (Nat.le_refl _)) (hP2.below hW (Nat.le_refl _)) hW.size
    have HLM:Hid (L≤1000000):=hm
    have hck:(5:Int)≤(c:Int):=by omega
    have hck2:(5:Int)≤(L:Int):=by omega
    have hck3:¬ c=5:=by omega
    have hwr:IntKind.i64.wrap 5=5:=by decide
    clear hE hsh hhd hsl hP1 hP2 hdl hds hsle
    go_enter Tryd.func15,Tryd.ntmps15
    go_wp2_with fail
    go_loop [10,11] (fun cut i=>∃ j:Nat,j≤4∧i=.int .i64 ((j:Int)+1)∧cut=.int .i64 ((valN (ds.take j):Nat):Int)) (fun _ i=>5 - (intOf i).toNat)
    case atStart=>exact ⟨0,by omega,by go_num,by simp [valN]⟩
    case round =>
     obtain ⟨j,hj,rfl,rfl⟩:=hrel
     by_cases hlt2:j<4
     ·obtain ⟨x,hx⟩:∃ x,Hid (ds.getD j 0=x):=⟨_,rfl⟩
      have hcj:w.cell? ⟨b,off+(j+1),none⟩=some (.int .u8 (x:Int)):=by rw [HCD.out j hlt2,hx.out]
      have hx256:x<256:=by have:=getD_lt HDS.out j;rw [hx.out] at this;exact this
      have hyl:=valN_lt (ds.take j) (fun z hz=>HDS.out z (List.mem_of_mem_take hz)) (by rw [List.length_take];omega)
      have hsn:Hid (valN (ds.take (j+1))=valN (ds.take j) * 256+x):=by show _=_;rw [take_snoc ds j (by have:=HDL.out;omega),valN_snoc,hx.out]
      obtain ⟨y,hy⟩:∃ y,Hid (valN (ds.take j)=y):=⟨_,rfl⟩
      rw [hy.out] at hyl hsn ⊢
      have hj1:(j:Int)+1≤4:=by omega
      have hj2:(j:Int)+1<(L:Int):=by omega
      go_wp2
      go_round
      case rel=>exact ⟨j+1,by omega,by go_num,by rw [hsn.out];exact congrArg (Value.int .i64) (by omega)⟩
      case measure=>simp [intOf];omega
     ·obtain rfl:j=4:=by omega
      have e:ds.take 4=ds:=List.take_of_length_le (by have:=HDL.out;omega)
      rw [e]
      clear e
      obtain ⟨num,hnum⟩:∃ x,Hid (Pn.backF (valN ds:Int) (4:Int) next=x):=⟨_,rfl⟩
      have HBK:=HBK
      rw [hnum.out] at HBK
      have hHR:=HR.out
      rw [show ((4:Nat):Int)=4 from rfl,hnum.out] at hHR
      have HR:=Lib.hid hHR
      have HOP:=Lib.hid (HOP0.out num)
      obtain ⟨vv,hvv⟩:∃ v,Hid ((valN ds:Int)=v):=⟨_,rfl⟩
      rw [hvv.out] at HBK ⊢
      clear hHR hnum
      go_wp2_with fail
      refine (HBK.out _).mono ?_;rintro e w' ⟨rfl,rfl⟩
      go_wp2_with fail
      refine wp_region_held_drew (S:=fun W'=>Below w.heap.size w W') (by kernel_rfl) ?_ (fun hHeld=>?_)
      ·exact (Below.refl _ _).drew
      refine wpAnyH_take (i:=0) (v:=?_) rfl (by kernel_rfl) (by kernel_rfl) (by kernel_rfl) (fun _ _ _ h=>h) (Or.inl ⟨by rfl,?_⟩) (by assumption) ?_
      rotate_left
      ·intro w hSw;(try dsimp only at hSw);go_simp;try with_reducible rfl
      go_simp
      refine wpAnyH_take (i:=1) (v:=?_) rfl (by kernel_rfl) (by kernel_rfl) (by kernel_rfl) (fun _ _ _ h=>h) (Or.inl ⟨by rfl,?_⟩) (by assumption) ?_
      rotate_left
      ·intro w hSw;(try dsimp only at hSw);go_simp;try with_reducible rfl
      go_simp
      refine wpAnyH_take (i:=2) (v:=?_) rfl (by kernel_rfl) (by kernel_rfl) (by kernel_rfl) (fun _ _ _ h=>h) (Or.inl ⟨by rfl,?_⟩) (by assumption) ?_
      rotate_left
      ·intro w hSw;(try dsimp only at hSw);go_simp;try with_reducible rfl
      go_simp
      refine wpAnyH_take (i:=3) (v:=?_) rfl (by kernel_rfl) (by kernel_rfl) (by kernel_rfl) (fun _ _ _ h=>h) (Or.inl ⟨by rfl,?_⟩) (by assumption) ?_
      rotate_left
      ·intro w hSw;(try dsimp only at hSw);go_simp;try with_reducible rfl
      go_simp
      refine wpAnyH_take (i:=4) (v:=?_) rfl (by kernel_rfl) (by kernel_rfl) (by kernel_rfl) (fun _ _ _ h=>h) (Or.inl ⟨by rfl,?_⟩) (by assumption) ?_
      rotate_left
      ·intro w hSw;(try dsimp only at hSw);go_simp;try with_reducible rfl
      go_simp
      refine wpAnyH_take (i:=5) (v:=?_) rfl (by kernel_rfl) (by kernel_rfl) (by kernel_rfl) (fun _ _ _ h=>h) (Or.inl ⟨by rfl,?_⟩) (by assumption) ?_
      rotate_left
      ·intro w hSw;(try dsimp only at hSw);go_simp;try with_reducible rfl
      go_simp
      refine wpAnyH_take (i:=6) (v:=?_) rfl (by kernel_rfl) (by kernel_rfl) (by kernel_rfl) (fun _ _ _ h=>h) (Or.inl ⟨by rfl,?_⟩) (by assumption) ?_
      rotate_left
      ·intro w hSw;(try dsimp only at hSw);go_simp;try with_reducible rfl
      go_simp
      refine wpAnyH_take (i:=7) (v:=?_) rfl (by kernel_rfl) (by kernel_rfl) (by kernel_rfl) (fun _ _ _ h=>h) (Or.inl ⟨by rfl,?_⟩) (by assumption) ?_
      rotate_left
      ·intro w hSw;(try dsimp only at hSw);go_simp;try with_reducible rfl
      go_simp
      refine wpAnyH_take (i:=8) (v:=?_) rfl (by kernel_rfl) (by kernel_rfl) (by kernel_rfl) (fun _ _ _ h=>h) (Or.inl ⟨by rfl,?_⟩) (by assumption) ?_
      rotate_left
      ·intro w hSw;(try dsimp only at hSw);go_simp;try with_reducible rfl
      go_simp
      refine wpAnyH_take (i:=9) (v:=?_) rfl (by kernel_rfl) (by kernel_rfl) (by kernel_rfl) (fun _ _ _ h=>h) (Or.inl ⟨by rfl,?_⟩) (by assumption) ?_
      rotate_left
      ·intro w hSw;(try dsimp only at hSw);go_simp;try with_reducible rfl
      go_simp
      refine wpAnyH_ready (rs:=[10]) (by kernel_rfl) (by simp) ?_
      refine AllReadyH.cons rfl (fun K hK=>?_) AllReadyH.nil
      go_simp
      refine (HOP.out _ (Below.refl _ _).drew).mono ?_
      rintro e w2 ⟨v2,rfl,hp2,hb2⟩
      have HP2:=Lib.hid hp2
      have HB2:Hid (Below w.heap.size w w2):=Below.trans (Below.refl _ _).drew (hb2.mono (Nat.le_refl w.heap.size))
      clear hp2 hb2
      refine hK.out _ _ ?_ (fun hHeld=>?_)
      ·exact HB2.out
      clear hK K
      go_simp
      refine wpAnyH_take (i:=11) (v:=?_) rfl (by kernel_rfl) (by kernel_rfl) (by kernel_rfl) (fun _ _ _ h=>h) (Or.inl ⟨by rfl,?_⟩) (by assumption) ?_
      rotate_left
      ·intro w hSw;(try dsimp only at hSw);go_simp;try with_reducible rfl
      go_simp
      refine wpAnyH_take (i:=12) (v:=?_) rfl (by kernel_rfl) (by kernel_rfl) (by kernel_rfl) (fun _ _ _ h=>h) (Or.inl ⟨by rfl,?_⟩) (by assumption) ?_
      rotate_left
      ·intro w hSw;(try dsimp only at hSw);go_simp;try with_reducible rfl
      go_simp
      refine wpAnyH_take (i:=13) (v:=?_) rfl (by kernel_rfl) (by kernel_rfl) (by kernel_rfl) (fun _ _ _ h=>h) (Or.inl ⟨by rfl,?_⟩) (by assumption) ?_
      rotate_left
      ·intro w hSw;(try dsimp only at hSw);go_simp;try with_reducible rfl
      go_simp
      refine wpAnyH_take (i:=14) (v:=?_) rfl (by kernel_rfl) (by kernel_rfl) (by kernel_rfl) (fun _ _ _ h=>h) (Or.inl ⟨by rfl,?_⟩) (by assumption) ?_
      rotate_left
      ·intro w hSw;(try dsimp only at hSw);go_simp;try with_reducible rfl
      go_simp
      refine wpAnyH_take (i:=15) (v:=?_) rfl (by kernel_rfl) (by kernel_rfl) (by kernel_rfl) (fun _ _ _ h=>h) (Or.inl ⟨by rfl,?_⟩) (by assumption) ?_
      rotate_left
      ·intro w hSw;(try dsimp only at hSw);go_simp;try with_reducible rfl
      go_simp
      refine wpAnyH_done (by kernel_rfl) ?_ _
      cases hok:Sl.openB key num (67 :: ds) sl with
      | false =>
        rw [hok] at HR
        clear hok
        go_wp2_with fail
        go_ret3
        exact HR.out _ _ HB2.out (fun _=>rfl) (fun h=>by cases h) (fun h=>by cases h)
      | true =>
        have hp:=HP2.out
        unfold Sl.ansF at hp
        rw [if_pos hok] at hp
        obtain ⟨Ab,cb,rfl,hrb,hbc,_,hblt⟩:=hp
        rw [hok] at HR
        have hbm:(Sl.maskN (Sl.stpN key (Sl.unN num)) (sl.take (sl.length - 8))).length≤1000000:=by rw [Sl.maskN_len,List.length_take];have:=HSL.out;omega
        obtain ⟨body,hbody⟩:∃ x,Sl.maskN (Sl.stpN key (Sl.unN num)) (sl.take (sl.length - 8))=x:=⟨_,rfl⟩
        rw [hbody] at hrb hbc hblt hbm HR ⊢
        have HRE:=Lib.hid (rframes_any body w2.heap.size Ab cb w2 hrb (Nat.le_refl _) hblt hbc hbm)
        obtain ⟨y,hy⟩:∃ y,readN body.length ⟨body,0⟩=y:=⟨_,rfl⟩
        rw [hy] at HRE HR
        obtain ⟨LB,hLB⟩:∃ L,Hid (body.length=L):=⟨_,rfl⟩
        rw [hLB.out] at HRE ⊢
        clear hok hrb hbc hblt hbm hy HP2 hbody
        go_wp2_with fail
        refine HRE.out.mono ?_
        rintro e w3 ⟨hb3,⟨hye,Ag,cg,rfl,hog⟩ | ⟨hye,er,her,rfl⟩⟩
        ·have HB3:Hid (Below w.heap.size w w3):=HB2.out.trans (hb3.mono HB2.out.size)
         have HOG:Hid (FrsOwn w3 w.heap.size (.slice Ag y.1.length cg) y.1):=by obtain ⟨cs,q1,q2⟩:=hog;exact ⟨cs,own_base q1 HB2.out.size,q2⟩
         clear hb3 hog
         by_cases hy0:y.1=[]
         ·have hy0':y.1.length=0:=by rw [hy0];rfl
          rw [hy0']
          go_wp2_with fail
          go_ret3
          exact HR.out _ _ HB3.out (fun h=>by cases h) (fun _ _=>rfl) (fun _ _ h=>absurd hy0 h)
         ·have hlp:0<y.1.length:=List.length_pos_iff.2 hy0
          have HY0:=Lib.hid hy0
          have HYE:=Lib.hid hye
          obtain ⟨LY,hLY⟩:∃ L,Hid (y.1.length=L):=⟨_,rfl⟩
          have hlp2:((LY:Int) == 0)=false:=by rw [← hLY.out];simp;omega
          have hlp3:¬ (LY:Int)=0:=by rw [← hLY.out];omega
          rw [hLY.out] at HR HOG ⊢
          clear hlp hy0 hye
          go_wp2_with fail
          go_ret3
          exact HR.out _ _ HB3.out (fun h=>by cases h) (fun _ h=>by rcases h with h | h;exact absurd HYE.out h;exact absurd h HY0.out) (fun _ _ _=>⟨Ag,cg,rfl,HOG.out⟩)
        ·have HB3:Hid (Below w.heap.size w w3):=HB2.out.trans (hb3.mono HB2.out.size)
         have hern:(er == 0)=false:=by simpa using her
         have HYE:=Lib.hid hye
         clear hb3 hye
         go_wp2_with fail
         go_ret3
         exact HR.out _ _ HB3.out (fun h=>by cases h) (fun _ _=>rfl) (fun _ h=>absurd h HYE.out)
end Go.Proofs.YtccljifichaieaaDoor.Rv
