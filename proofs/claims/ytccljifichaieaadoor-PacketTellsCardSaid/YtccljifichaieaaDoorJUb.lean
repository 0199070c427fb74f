/- Joined texts. Conditions: as each theorem lists them. -/
import Derived.Test.YtccljifichaieaaDoorJUa
import Derived.Test.YtccljifichaieaaDoorJTe
set_option linter.unusedSimpArgs false
set_option linter.unusedVariables false
set_option maxRecDepth 100000
set_option maxHeartbeats 8000000
namespace Go.Proofs.YtccljifichaieaaDoor.Rv
open Go Go.RowKit
theorem stepO_at {k:Nat} {es:List Int} {r r2:List Nat} {v V:Nat} (h:dec r=some (v,V)) (h2:r.drop V=r2):stepO k (es,r)=if 0<k∧v<2 then none else match runO (lastO k es v) r2 with | none=>none | some (lo,r)=>some (es ++ [lo,lastO k es v],r):=by
 unfold stepO
 simp only [h,h2]
 rfl
def SpansRP (bs:List Nat) (w:World) (e:Ending) (w':World):Prop :=
 Below w.heap.size w w' ∧
 (sO true bs=none→∃ er:Int,er≠0∧e=.returned (.tuple #[.slice none 0 0,.slice none 0 0,.int .i64 er])) ∧
 (∀ es r,sO true bs=some (es,r)→∃ A1 m c1 A2 c2,e=.returned (.tuple #[.slice A1 m c1,.slice A2 r.length c2,.int .i64 0])∧es.length=m * 2∧m≤8∧w'.ownsRow w.heap.size 67 2 (.slice A1 m c1) m (ints es)∧r.length≤c2∧RdT w' w'.heap.size A2 r.length r)
def lowO (k:Nat) (es:List Int):Int:=if k=0 then 0 else es.getD (2 * (k - 1)) 0
structure SpLp (w wr:World) (ds:List Nat) (k:Nat) (es:List Int) (r:List Nat) (A1:Option Addr) (c1:Nat) (v:Value):Prop where
 run:runsO ds k=some (es,r)
 own:wr.ownsRow w.heap.size 67 2 v k (ints es)
 rd:RdT wr wr.heap.size A1 r.length r
 cap:r.length≤c1
 bel:Below w.heap.size w wr
theorem runsO_no {ds:List Nat} {k n:Nat} (hk:k<n) (h:runsO ds (k+1)=none):runsO ds n=none:=by
 have:=runsO_none h (n - (k+1))
 rwa [show k+1+(n - (k+1))=n by omega] at this
theorem runO_len {la lo:Int} {r r2:List Nat} (h:runO la r=some (lo,r2)):r2.length≤r.length:=by
 unfold runO at h
 split at h
 ·cases h
 ·split at h
  ·cases h
  ·split at h
   ·cases h
   ·simp only [Option.some.injEq,Prod.mk.injEq] at h
    rw [← h.2,List.length_drop];omega
theorem stepO_len {i:Nat} {x y:List Int × List Nat} (h:stepO i x=some y):y.2.length≤x.2.length:=by
 unfold stepO at h
 split at h
 ·cases h
 ·split at h
  ·cases h
  ·split at h
   ·cases h
   ·rename_i hr
    simp only [Option.some.injEq] at h
    subst h
    have:=runO_len hr
    rw [List.length_drop] at this
    simp only;omega
theorem runsO_rest {bs:List Nat}:∀ (i:Nat) (x:List Int × List Nat),runsO bs i=some x→x.2.length≤bs.length
 | 0,x,h=>by simp only [runsO,Option.some.injEq] at h;subst h;exact Nat.le_refl _
 | i+1,x,h=>by
   unfold runsO at h
   cases hq:runsO bs i with
   | none=>rw [hq] at h;cases h
   | some q =>
     rw [hq] at h
     exact Nat.le_trans (stepO_len h) (runsO_rest i q hq)
/-- Two rows of unlike elements: where the one grows the other stays. -/
theorem row_apart {w w':World} {base e size n base2 e2 size2 m:Nat} {v v2:Value} {xs ys:List Value} (h:w.ownsRow base e size v n xs) (h2:w.ownsRow base2 e2 size2 v2 m ys) (hne:e≠e2) (g:w.grownBy w' v2.ownBlock):w'.ownsRow base e size v n xs:=by
 refine h.kept g ?_
 rcases h2.2 with ⟨rfl,_⟩ | ⟨b2,cap2,cur2,rfl,_,hh,_⟩
 ·cases v.ownBlock <;> simp [Value.ownBlock]
 ·have:=own_other h hh hne
  first | exact .inr (Ne.symm this) | exact .inr this | exact .inr (fun e=>this e) | exact .inr (fun e=>this e.symm)
theorem rspansR_any (bs:List Nat) (B:Nat) (A:Option Addr) (cap:Nat) (w:World) (hx:Rd w B A bs.length (bv bs)) (hB:B≤w.heap.size) (hb:∀ c ∈ bs,c<256) (hn:bs.length≤cap) (hm:bs.length≤1000000) :
  Calls Tryd.prog 80 #[.slice A bs.length cap] w (SpansRP bs w):=by
 have HT0:=Lib.hid (rtake_any bs B A cap w hx hB hb hn (by omega))
 have HFN:Hid (sO true bs=none→∀ er:Int,er≠0→∀ w',Below w.heap.size w w'→SpansRP bs w (.returned (.tuple #[.slice none 0 0,.slice none 0 0,.int .i64 er])) w'):=fun h er he w' hw=>⟨hw,fun _=>⟨er,he,rfl⟩,fun es r h2=>by rw [h] at h2;cases h2⟩
 cases hd:dec bs with
 | none =>
   have hs:Hid (sO true bs=none):=by show sO true bs=none;unfold sO;simp only [hd]
   have hd:=Lib.hid hd
   clear hx hB hb hn
   go_enter Tryd.func80,Tryd.ntmps80
   go_wp2_with fail
   refine HT0.out.mono ?_
   rintro e w' (⟨_,rfl,h2⟩ | ⟨v,W,v',h1,_⟩)
   ·have h2:=Lib.hid h2
    go_wp2
    go_ret3
    exact HFN.out hs.out 3 (by decide) _ h2.out
   ·rw [hd.out] at h1;cases h1
 | some p =>
   obtain ⟨n,W⟩:=p
   have hnM:=dec_lt hb hd
   have hd:=Lib.hid hd
   by_cases hn1:n<1
   ·have hs:Hid (sO true bs=none):=by show sO true bs=none;unfold sO;simp only [hd.out];rw [if_pos (.inl hn1)]
    obtain rfl:n=0:=by omega
    clear hx hB hb hn hn1
    go_enter Tryd.func80,Tryd.ntmps80
    go_wp2_with fail
    refine HT0.out.mono ?_
    rintro e w' (⟨h1,_⟩ | ⟨v,W',v',h1,rfl,_,h2⟩)
    ·rw [hd.out] at h1;cases h1
    ·rw [hd.out] at h1
     cases h1
     have h2:=Lib.hid h2
     go_wp2
     go_ret3
     exact HFN.out hs.out 2 (by decide) _ h2.out
   ·by_cases hn8:8<n
    ·have hs:Hid (sO true bs=none):=by show sO true bs=none;unfold sO;simp only [hd.out];rw [if_pos (.inr hn8)]
     have hi1:¬ (n:Int)<1:=by omega
     have hi8:(8:Int)<(n:Int):=by omega
     clear hx hB hb hn hn1 hn8
     go_enter Tryd.func80,Tryd.ntmps80
     go_wp2_with fail
     refine HT0.out.mono ?_
     rintro e w' (⟨h1,_⟩ | ⟨v,W',v',h1,rfl,_,h2⟩)
     ·rw [hd.out] at h1;cases h1
     ·rw [hd.out] at h1
      cases h1
      have h2:=Lib.hid h2
      go_wp2
      go_ret3
      exact HFN.out hs.out 2 (by decide) _ h2.out
    ·have hs:Hid (sO true bs=runsO (bs.drop W) n):=by show sO true bs=_;unfold sO;simp only [hd.out];rw [if_neg (by omega)]
     have hi1:¬ (n:Int)<1:=by omega
     have hi8:¬ (8:Int)<(n:Int):=by omega
     have H8:Hid (n≤8):=by show n≤8;omega
     have HLD:Hid ((bs.drop W).length=bs.length - W):=by show _=_;rw [List.length_drop]
     have HBD:Hid (∀ c ∈ bs.drop W,c<256):=fun c hc=>hb c (List.mem_of_mem_drop hc)
     have HLM:Hid ((bs.drop W).length≤1000000):=by show _≤_;rw [List.length_drop];omega
     obtain ⟨ds,hds⟩:∃ ds,bs.drop W=ds:=⟨_,rfl⟩
     rw [hds] at hs HLD HBD HLM
     have hds:=Lib.hid hds
     obtain ⟨i0,hi,hz0,hz1,hz2⟩:=info_parts infoI2
     have HI:=Lib.hid (And.intro hi (And.intro hz0 (And.intro hz1 hz2)))
     clear hi hz0 hz1 hz2 hx hB hb hn hn1 hn8 hnM
     go_enter Tryd.func80,Tryd.ntmps80
     go_wp2_with fail
     refine HT0.out.mono ?_
     rintro e w1 (⟨h1,_⟩ | ⟨v,W',v',h1,rfl,h3,h2⟩)
     ·rw [hd.out] at h1;cases h1
     ·rw [hd.out] at h1
      cases h1
      rw [← HLD.out,hds.out] at h3
      obtain ⟨A',c',rfl,g1,g2,g3,g4⟩:=own_form h3
      rw [Nat.mul_one] at g4
      have HS0:Hid (SpLp w w1 ds 0 [] ds A' c' (.slice none 0 0)):=⟨rfl,own_nil _ _ _ _,RdT.of_own h3,g1,h2⟩
      clear g1 g2 g3 g4 h2 h3
      go_wp2_with fail
      go_loopw [6,8,9,10] (fun rest out low i wr=>∃ (k:Nat) (es:List Int) (r:List Nat) (A1:Option Addr) (c1:Nat) (A2:Option Addr) (c2:Nat),k≤n∧rest=.slice A1 r.length c1∧out=.slice A2 k c2∧low=.int .i64 (lowO k es)∧i=.int .i64 (k:Int)∧Hid (SpLp w wr ds k es r A1 c1 (.slice A2 k c2))) (fun _ _ _ i _=>n - (intOf i).toNat)
      case atStart=>exact ⟨0,[],ds,A',c',none,0,Nat.zero_le _,rfl,rfl,rfl,rfl,HS0⟩
      case round =>
       obtain ⟨k,es,r,A1,c1,A2,c2,hk,rfl,rfl,rfl,rfl,HK⟩:=hrel
       obtain ⟨inm,hsub,hlen⟩:=runsO_in HBD.out k _ HK.out.run
       simp only at inm hsub hlen
       have HBR:Hid (∀ c ∈ r,c<256):=fun c hc=>HBD.out c (hsub c hc)
       have HLEN:=Lib.hid hlen
       have HINM:=Lib.hid inm
       obtain ⟨L,hL⟩:∃ L,Hid (r.length=L):=⟨_,rfl⟩
       by_cases hlt:k<n
       ·have hlti:(k:Int)<(n:Int):=by omega
        have HKN:=Lib.hid hlt
        have HLR:Hid (r.length≤1000000):=by show _≤_;exact Nat.le_trans (runsO_rest _ _ HK.out.run) HLM.out
        have HT:=Lib.hid (rtake_any r wr.heap.size A1 c1 wr HK.out.rd.1 (Nat.le_refl _) HBR.out HK.out.cap (by have:=HLR.out;omega))
        rw [hL.out] at HT ⊢
        have HNX:Hid (runsO ds (k+1)=stepO k (es,r)):=by show (match runsO ds k with | none=>none | some x=>stepO k x)=_;rw [HK.out.run]
        have HSTOP:Hid (stepO k (es,r)=none→∀ er:Int,er≠0→∀ w',Below w.heap.size w w'→SpansRP bs w (.returned (.tuple #[.slice none 0 0,.slice none 0 0,.int .i64 er])) w'):=fun h=>HFN.out (hs.out.trans (runsO_no HKN.out (HNX.out.trans h)))
        have HLOW:Hid (∀ v,lastO k es v=if k=0 then (v:Int) else lowO k es - v):=fun v=>by unfold lastO lowO;split <;> rfl
        have hlow:=HINM.out.getD (2 * (k - 1))
        have hlo:0≤lowO k es∧lowO k es≤4611686018427387903:=by unfold lowO;split;omega;exact hlow
        obtain ⟨lw,hlw⟩:∃ x,lowO k es=x:=⟨_,rfl⟩
        rw [hlw] at hlo HLOW ⊢
        obtain ⟨hlo1,hlo2⟩:=hlo
        clear hlw hlow inm hsub hlen hlt
        go_wp2_with fail
        refine HT.out.mono ?_
        rintro e w2 (⟨h1,rfl,h2⟩ | ⟨v,V,v',h1,rfl,h3,h2⟩)
        ·have hst:Hid (stepO k (es,r)=none):=by show _=_;unfold stepO;simp only [h1]
         have HB2:Hid (Below w.heap.size w w2):=HK.out.bel.trans (h2.mono HK.out.bel.size)
         clear h1 h2
         go_wp2_with fail
         go_ret3
         exact HSTOP.out hst.out 3 (by decide) _ HB2.out
        ·have hvM:v≤4611686018427387903:=dec_lt HBR.out h1
         have HD:=Lib.hid h1
         have hV:=(dec_le h1).2.1
         rw [show r.length - V=(r.drop V).length by rw [List.length_drop]] at h3
         have HB2:Hid (Below w.heap.size w w2):=HK.out.bel.trans (h2.mono HK.out.bel.size)
         have HO2:Hid (w2.ownsRow w.heap.size 67 2 (.slice A2 k c2) k (ints es)):=own_below HK.out.own h2
         have HBR2:Hid (∀ c ∈ r.drop V,c<256):=fun c hc=>HBR.out c (List.mem_of_mem_drop hc)
         have HLR2:Hid ((r.drop V).length≤1000000):=by show _≤_;rw [List.length_drop];have:=HLR.out;omega
         obtain ⟨r2,hr2⟩:∃ x,Hid (r.drop V=x):=⟨_,rfl⟩
         rw [hr2.out] at h3 HBR2 HLR2
         obtain ⟨A3,c3,rfl,g1,g2,g3,g4⟩:=own_form h3
         rw [Nat.mul_one] at g4
         have HT2:=Lib.hid (rtake_any r2 w2.heap.size A3 c3 w2 g4 (Nat.le_refl _) HBR2.out g1 (by have:=HLR2.out;omega))
         obtain ⟨L2,hL2⟩:∃ L,Hid (r2.length=L):=⟨_,rfl⟩
         rw [hL2.out] at HT2 ⊢
         have HST:Hid (stepO k (es,r)=if 0<k∧v<2 then none else match runO (lastO k es v) r2 with | none=>none | some (lo,r)=>some (es ++ [lo,lastO k es v],r)):=stepO_at HD.out hr2.out
         clear h1 h2 h3 g1 g2 g3 g4
         have hlv:=HLOW.out v
         by_cases hk0:k=0
         ·have hla0:Hid (lastO k es v=(v:Int)):=by show _=_;rw [hlv,if_pos hk0]
          rw [hla0.out] at HST
          have hla:¬ (v:Int)<0:=by omega
          have hki:¬ (0:Int)<(k:Int):=by omega
          have HK0:=Lib.hid hk0
          clear hk0
          go_wp2_with fail
          refine HT2.out.mono ?_
          rintro e w3 (⟨h1,rfl,h2⟩ | ⟨y,Y,v',h1,rfl,h3,h2⟩)
          ·have hst:Hid (stepO k (es,r)=none):=by show _=_;rw [HST.out,if_neg (by omega)];unfold runO;rw [if_neg (show ¬ (v:Int)<0 by omega)];simp only [h1]
           have HB3:Hid (Below w.heap.size w w3):=HB2.out.trans (h2.mono HB2.out.size)
           clear h1 h2
           go_wp2_with fail
           go_ret3
           exact HSTOP.out hst.out 3 (by decide) _ HB3.out
          ·have hyM:y≤4611686018427387903:=dec_lt HBR2.out h1
           have HDY:=Lib.hid h1
           have HB3:Hid (Below w.heap.size w w3):=HB2.out.trans (h2.mono HB2.out.size)
           by_cases hy:(v:Int)<(y:Int)
           ·have hst:Hid (stepO k (es,r)=none):=by show _=_;rw [HST.out,if_neg (by omega)];unfold runO;rw [if_neg (show ¬ (v:Int)<0 by omega)];simp only [HDY.out];rw [if_pos hy]
            have hyn:(v:Int) - (y:Int)<0:=by omega
            clear h1 h2 h3
            go_wp2_with fail
            go_ret3
            exact HSTOP.out hst.out 2 (by decide) _ HB3.out
           ·have hst:Hid (stepO k (es,r)=some (es ++ [(v:Int) - (y:Int),(v:Int)],r2.drop Y)):=by show _=_;rw [HST.out,if_neg (by omega)];unfold runO;rw [if_neg (show ¬ (v:Int)<0 by omega)];simp only [HDY.out];rw [if_neg hy]
            rw [show r2.length - Y=(r2.drop Y).length by rw [List.length_drop]] at h3
            have HO3:Hid (w3.ownsRow w.heap.size 67 2 (.slice A2 k c2) k (ints es)):=own_below HO2.out h2
            obtain ⟨r3,hr3⟩:∃ x,Hid (r2.drop Y=x):=⟨_,rfl⟩
            rw [hr3.out] at h3 hst
            obtain ⟨A4,c4,rfl,g1,g2,g3,g4⟩:=own_form h3
            rw [Nat.mul_one] at g4
            have HR4:=Lib.hid h3
            have HC4:=Lib.hid g1
            have HRD4:=Lib.hid g4
            have hyn:¬ (v:Int) - (y:Int)<0:=by omega
            have hyn2:0≤(v:Int) - (y:Int):=by omega
            have hb2:Hid (w.heap.size≤(w3.alloc (.cells #[.int .i64 ((v:Int) - (y:Int)),.int .i64 ((v:Int))] 67)).heap.size):=by have:=HB3.out.size;show _≤_;simp only [World.size_alloc];omega
            have h8:=H8.out
            clear h1 h2 h3 g1 g2 g3 g4
            obtain ⟨L3,hL3⟩:∃ L,Hid (r3.length=L):=⟨_,rfl⟩
            rw [hL3.out]
            go_wp2_with (at_builtin;refine wpList_app _ rfl (.tmp 71) (.tmp 75) 42 rfl w.heap.size 67 i0 (.agg #[.int .i64 0,.int .i64 0]) 2 16 Tryd.underlying42 HI.out.1 HI.out.2.1 HI.out.2.2.1 HI.out.2.2.2 rfl (by decide) (.slice A2 k c2) k (ints es) rfl (HO3.out.alloc _) (w3.heap.size+1) (some ⟨w3.heap.size,0,none⟩) 1 1 (ints [(v:Int) - (y:Int),(v:Int)]) rfl (rd_new _ _ _ _ _ _ _ rfl (by omega) rfl rfl) (ones_ints _) (by unfold maxLen;omega) (by omega) hb2.out ?_)
            intro v1 w8 hown1 hgrow1
            obtain ⟨A5,c5,e1,_⟩:=own_form hown1
            subst e1
            rw [← ints_app] at hown1
            have HN:Hid (SpLp w w8 ds (k+1) (es ++ [(v:Int) - (y:Int),(v:Int)]) r3 A4 c4 (.slice A5 (k+1) c5)):=by
             have hB8:=(HB3.out.alloc HB3.out.size (.cells #[.int .i64 ((v:Int) - (y:Int)),.int .i64 ((v:Int))] 67)).grown hgrow1 hb2.out (fun g hg=>(HO3.out.lt g hg).1)
             refine ⟨HNX.out.trans hst.out,hown1,?_,HC4.out,hB8⟩
             have hk2:=HR4.out.alloc (.cells #[.int .i64 ((v:Int) - (y:Int)),.int .i64 ((v:Int))] 67)
             have hk2:=row_apart hk2 (HO3.out.alloc _) (by decide) hgrow1
             exact RdT.of_own hk2
            clear hown1 hgrow1
            go_wp2_with fail
            go_roundw
            case rel=>exact ⟨k+1,_,r3,A4,c4,A5,c5,by omega,by rw [hL3.out],rfl,by rw [show lowO (k+1) (es ++ [(v:Int) - (y:Int),(v:Int)])=(v:Int) - (y:Int) from by unfold lowO;rw [if_neg (by omega),show 2 * (k+1 - 1)=es.length+0 by have:=HLEN.out;omega,getD_app_right];rfl],by go_num,HN⟩
            case measure=>simp [intOf];omega
         ·have hla0:Hid (lastO k es v=lw - (v:Int)):=by show _=_;rw [hlv,if_neg hk0]
          rw [hla0.out] at HST
          have hki:(0:Int)<(k:Int):=by omega
          by_cases hv2:v<2
          ·have hst:Hid (stepO k (es,r)=none):=by show _=_;rw [HST.out,if_pos ⟨by omega,hv2⟩]
           have hv2i:(v:Int)<2:=by omega
           go_wp2_with fail
           go_ret3
           exact HSTOP.out hst.out 2 (by decide) _ HB2.out
          ·have hv2i:¬ (v:Int)<2:=by omega
           by_cases hla:lw - (v:Int)<0
           ·have hst:Hid (stepO k (es,r)=none):=by show _=_;rw [HST.out,if_neg (by omega)];unfold runO;rw [if_pos hla]
            go_wp2_with fail
            go_ret3
            exact HSTOP.out hst.out 2 (by decide) _ HB2.out
           ·skip
            go_wp2_with fail
            refine HT2.out.mono ?_
            rintro e w3 (⟨h1,rfl,h2⟩ | ⟨y,Y,v',h1,rfl,h3,h2⟩)
            ·have hst:Hid (stepO k (es,r)=none):=by show _=_;rw [HST.out,if_neg (by omega)];unfold runO;rw [if_neg (show ¬ (lw - (v:Int))<0 by omega)];simp only [h1]
             have HB3:Hid (Below w.heap.size w w3):=HB2.out.trans (h2.mono HB2.out.size)
             clear h1 h2
             go_wp2_with fail
             go_ret3
             exact HSTOP.out hst.out 3 (by decide) _ HB3.out
            ·have hyM:y≤4611686018427387903:=dec_lt HBR2.out h1
             have HDY:=Lib.hid h1
             have HB3:Hid (Below w.heap.size w w3):=HB2.out.trans (h2.mono HB2.out.size)
             by_cases hy:(lw - (v:Int))<(y:Int)
             ·have hst:Hid (stepO k (es,r)=none):=by show _=_;rw [HST.out,if_neg (by omega)];unfold runO;rw [if_neg (show ¬ (lw - (v:Int))<0 by omega)];simp only [HDY.out];rw [if_pos hy]
              have hyn:(lw - (v:Int)) - (y:Int)<0:=by omega
              clear h1 h2 h3
              go_wp2_with fail
              go_ret3
              exact HSTOP.out hst.out 2 (by decide) _ HB3.out
             ·have hst:Hid (stepO k (es,r)=some (es ++ [(lw - (v:Int)) - (y:Int),(lw - (v:Int))],r2.drop Y)):=by show _=_;rw [HST.out,if_neg (by omega)];unfold runO;rw [if_neg (show ¬ (lw - (v:Int))<0 by omega)];simp only [HDY.out];rw [if_neg hy]
              rw [show r2.length - Y=(r2.drop Y).length by rw [List.length_drop]] at h3
              have HO3:Hid (w3.ownsRow w.heap.size 67 2 (.slice A2 k c2) k (ints es)):=own_below HO2.out h2
              obtain ⟨r3,hr3⟩:∃ x,Hid (r2.drop Y=x):=⟨_,rfl⟩
              rw [hr3.out] at h3 hst
              obtain ⟨A4,c4,rfl,g1,g2,g3,g4⟩:=own_form h3
              rw [Nat.mul_one] at g4
              have HR4:=Lib.hid h3
              have HC4:=Lib.hid g1
              have HRD4:=Lib.hid g4
              have hyn:¬ (lw - (v:Int)) - (y:Int)<0:=by omega
              have hyn2:0≤(lw - (v:Int)) - (y:Int):=by omega
              have hb2:Hid (w.heap.size≤(w3.alloc (.cells #[.int .i64 ((lw - (v:Int)) - (y:Int)),.int .i64 ((lw - (v:Int)))] 67)).heap.size):=by have:=HB3.out.size;show _≤_;simp only [World.size_alloc];omega
              have h8:=H8.out
              clear h1 h2 h3 g1 g2 g3 g4
              obtain ⟨L3,hL3⟩:∃ L,Hid (r3.length=L):=⟨_,rfl⟩
              rw [hL3.out]
              go_wp2_with (at_builtin;refine wpList_app _ rfl (.tmp 71) (.tmp 75) 42 rfl w.heap.size 67 i0 (.agg #[.int .i64 0,.int .i64 0]) 2 16 Tryd.underlying42 HI.out.1 HI.out.2.1 HI.out.2.2.1 HI.out.2.2.2 rfl (by decide) (.slice A2 k c2) k (ints es) rfl (HO3.out.alloc _) (w3.heap.size+1) (some ⟨w3.heap.size,0,none⟩) 1 1 (ints [(lw - (v:Int)) - (y:Int),(lw - (v:Int))]) rfl (rd_new _ _ _ _ _ _ _ rfl (by omega) rfl rfl) (ones_ints _) (by unfold maxLen;omega) (by omega) hb2.out ?_)
              intro v1 w8 hown1 hgrow1
              obtain ⟨A5,c5,e1,_⟩:=own_form hown1
              subst e1
              rw [← ints_app] at hown1
              have HN:Hid (SpLp w w8 ds (k+1) (es ++ [(lw - (v:Int)) - (y:Int),(lw - (v:Int))]) r3 A4 c4 (.slice A5 (k+1) c5)):=by
               have hB8:=(HB3.out.alloc HB3.out.size (.cells #[.int .i64 ((lw - (v:Int)) - (y:Int)),.int .i64 ((lw - (v:Int)))] 67)).grown hgrow1 hb2.out (fun g hg=>(HO3.out.lt g hg).1)
               refine ⟨HNX.out.trans hst.out,hown1,?_,HC4.out,hB8⟩
               have hk2:=HR4.out.alloc (.cells #[.int .i64 ((lw - (v:Int)) - (y:Int)),.int .i64 ((lw - (v:Int)))] 67)
               have hk2:=row_apart hk2 (HO3.out.alloc _) (by decide) hgrow1
               exact RdT.of_own hk2
              clear hown1 hgrow1
              go_wp2_with fail
              go_roundw
              case rel=>exact ⟨k+1,_,r3,A4,c4,A5,c5,by omega,by rw [hL3.out],rfl,by rw [show lowO (k+1) (es ++ [(lw - (v:Int)) - (y:Int),(lw - (v:Int))])=(lw - (v:Int)) - (y:Int) from by unfold lowO;rw [if_neg (by omega),show 2 * (k+1 - 1)=es.length+0 by have:=HLEN.out;omega,getD_app_right];rfl],by go_num,HN⟩
              case measure=>simp [intOf];omega
       ·have hlti:¬ (k:Int)<(n:Int):=by omega
        obtain rfl:k=n:=by omega
        have HE:Hid (SpansRP bs w (.returned (.tuple #[.slice A2 k c2,.slice A1 r.length c1,.int .i64 0])) wr):=by
         have hrun:=hs.out.trans HK.out.run
         refine ⟨HK.out.bel,fun h=>(by rw [h] at hrun;cases hrun),fun es' r' h=>?_⟩
         rw [hrun] at h
         cases h
         exact ⟨A2,k,c2,A1,c1,rfl,by have:=HLEN.out;omega,H8.out,HK.out.own,HK.out.cap,HK.out.rd⟩
        rw [hL.out] at HE ⊢
        go_wp2_with fail
        go_ret3
        exact HE.out
end Go.Proofs.YtccljifichaieaaDoor.Rv
