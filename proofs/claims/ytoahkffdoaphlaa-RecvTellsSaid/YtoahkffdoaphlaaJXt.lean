/- Joined texts. Conditions: as each theorem lists them. -/
import Derived.Test.YtoahkffdoaphlaaJTh
set_option linter.unusedSimpArgs false
set_option linter.unusedVariables false
set_option maxRecDepth 100000
set_option maxHeartbeats 80000000
namespace Go.Proofs.Ytoahkffdoaphlaa.Sp.Ref
open Go Go.RowKit
theorem RefIn.same2 {w:World} {p o:Nat} {Tt:TypeId} {cur:Array Value} {es:List Int} (h:RefIn w p o Tt cur es):∃ v,RefIn w p o Tt (cur.setIfInBounds o v) es∧(NewV w v∨cur[o]?=some v):=by
 obtain ⟨h1,A,n,c,h0,⟨h2,h3⟩,h4⟩:=h
 exact ⟨.slice A n c,⟨h1,A,n,c,h0,⟨by rw [set_same h3];exact h2,slot_set h3⟩,h4⟩,.inr h3⟩
theorem rdrop_donew (es:List Int) (p o:Nat) (Tt:TypeId) (cur:Array Value) (f0 t0:Int) (w:World) (h:RefIn w p o Tt cur es) (hm:(es.length+1) * 32≤140737488355328) (hft:clamp f0<clamp t0) :
  Calls Try.prog 65 #[.pointer (some ⟨p,o,none⟩),.int .i64 f0,.int .i64 t0] w fun e w'=>e=.returned (.tuple #[])∧(∃ v,RefIn w' p o Tt (cur.setIfInBounds o v) (turnF es (clamp f0) (clamp t0) false)∧(NewV w v∨cur[o]?=some v))∧w.grownBy w' (some p):=by
 have cf:=clamp_in f0
 have ct:=clamp_in t0
 have W1:=Lib.hid (fun W=>rwithin_any f0 W)
 have W2:=Lib.hid (fun W=>rwithin_any t0 W)
 obtain ⟨f,hf⟩:∃ x,Hid (clamp f0=x):=⟨_,rfl⟩
 obtain ⟨t,ht⟩:∃ x,Hid (clamp t0=x):=⟨_,rfl⟩
 rw [hf.out] at W1 cf hft ⊢
 rw [ht.out] at W2 ct hft ⊢
 have hle:¬ t≤f:=by omega
 have hpz:=h.lt
 have HOk:=Lib.hid h.1
 obtain ⟨_,A,n,c,hn0,⟨hhp,hcur⟩,hnc,hrd,haw⟩:=h
 have HCU:=Lib.hid hcur
 have hn:=Lib.hid hn0
 have HR:=Lib.hid hrd
 have HHP:=Lib.hid hhp
 have hnb:(n:Int)≤2199023255552:=by omega
 have hncI:(n:Int)≤(c:Int):=by omega
 obtain ⟨i0,hi,hz0,hz1,hz2⟩:=info_parts infoP
 have HI:=Lib.hid (And.intro hi (And.intro hz0 (And.intro hz1 hz2)))
 have hcell:w.cell? ⟨p,o,none⟩=some (.slice A n c):=cell_slot hhp hcur
 clear hhp hcur hrd haw hn0 hi hz0 hz1 hz2
 go_enter Try.func65,Try.ntmps65
 go_wp2_with fail
 refine (W1.out _).mono ?_;rintro e w' ⟨rfl,rfl⟩
 go_wp2_with fail
 refine (W2.out _).mono ?_;rintro e w' ⟨rfl,rfl⟩
 go_wp2_with fail
 go_loopw [6,7] (fun v i wr=>∃ k:Nat,k≤n∧i=.int .i64 k∧(∃ Ao no co,v=.slice Ao no co)∧Hid (DropW w wr es f t k v)) (fun _ i _=>n - (intOf i).toNat)
 case atStart=>exact ⟨0,Nat.zero_le _,rfl,⟨_,_,_,rfl⟩,0,[],DropI.nil es f t,rfl,own_nil _ _ _ _,Below.refl _ _⟩
 case round =>
  clear hcell
  obtain ⟨k,hk,rfl,⟨Ao,no',co,rfl⟩,HK⟩:=hrel
  obtain ⟨no,out,hd,hol,hown,hbw⟩:=HK.out
  obtain ⟨Ax,cx,ex,_⟩:=own_form hown
  simp only [Value.slice.injEq] at ex
  obtain ⟨rfl,rfl,rfl⟩:=ex
  have HD:=Lib.hid hd
  have HOL:=Lib.hid hol
  have HO:=Lib.hid hown
  have HB:=Lib.hid hbw
  have hcellr:wr.cell? ⟨p,o,none⟩=some (.slice A n c):=by rw [hbw.cell (p:=⟨p,o,none⟩) hpz];exact cell_slot HHP.out HCU.out
  clear HK hd hol hown hbw
  by_cases hlt:k<n
  ·have hlti:(k:Int)<(n:Int):=by omega
   obtain ⟨b,off,hA,hbn,hcs⟩:=HR.out.2 (by omega)
   subst hA
   have hl1:2 * k+1<es.length:=by have:=hn.out;omega
   have HST:=Lib.hid (HD.out.step HOk.out hft hl1)
   obtain ⟨x,hx⟩:∃ x,Hid (es.getD (2 * k) 0=x):=⟨_,rfl⟩
   obtain ⟨y,hy⟩:∃ y,Hid (es.getD (2 * k+1) 0=y):=⟨_,rfl⟩
   have hcx:wr.cell? ⟨b,off+k * 2,none⟩=some (.int .i64 x):=by
    rw [HB.out.cell (p:=⟨b,off+k * 2,none⟩) hbn,show off+k * 2=off+2 * k by omega,hcs (2 * k) _ (ints_get es _ (by omega)),hx.out]
   have hcy:wr.cell? ⟨b,off+k * 2+1,none⟩=some (.int .i64 y):=by
    rw [HB.out.cell (p:=⟨b,off+k * 2+1,none⟩) hbn,show off+k * 2+1=off+(2 * k+1) by omega,hcs (2 * k+1) _ (ints_get es _ (by omega)),hy.out]
   rw [hx.out,hy.out] at HST
   clear hcs
   have nb:=World.new_ne wr _ hcx
   have hnob:no'≤2 * n:=by have h1:=HD.out.2.2.2;have h2:=HOL.out;omega
   obtain ⟨wa,hwa⟩:∃ wa,Hid (wr.alloc (.cells #[.int .i64 x,.int .i64 y] 88)=wa):=⟨_,rfl⟩
   have HX:Hid (wa.heap[wr.heap.size]?=some (.cells #[.int .i64 x,.int .i64 y] 88 (0,0))∧wa.heap.size=wr.heap.size+1∧Below wr.heap.size wr wa):=by
    rw [← hwa.out];exact ⟨heap_alloc_new _ _,by simp,(Below.refl _ _).alloc (Nat.le_refl _) _⟩
   obtain ⟨px,hpx⟩:∃ px,Hid (wr.heap.size=px):=⟨_,rfl⟩
   have HO1:Hid (wa.ownsRow w.heap.size 88 2 (.slice Ao no' co) no' (ints out)∧(∀ g,(Value.slice Ao no' co).ownBlock=some g→g<px)):=by
    refine ⟨?_,fun g hg=>by rw [← hpx.out];exact (HO.out.lt g hg).2⟩
    rw [← hwa.out];exact HO.out.alloc _
   have HBa:Hid (Below w.heap.size w wa):=HB.out.trans (HX.out.2.2.mono HB.out.size)
   rw [hpx.out] at HX
   go_upto_if 38 with (fail)
   rw [hwa.out,hpx.out]
   go_cut [6] (fun v wx=>∃ (A1:Option Addr) (n1 c1:Nat),v=.slice A1 n1 c1∧n1≤no'+1∧Hid (PP w wx px x y (drop1 out x y f) A1 n1 c1))
   case first =>
    have hcc:=two_cells HX.out.1
    obtain ⟨hc0,hc1⟩:=hcc
    by_cases c1:x<min y f
    ·have HD1:Hid (drop1 out x y f=out ++ [x,min y f]):=by show _=_;unfold drop1;rw [if_pos c1]
     have d1:decide (x<min y f)=true:=decide_eq_true c1
     have hb2:Hid (w.heap.size≤(wa.alloc (.cells #[.int .i64 (x),.int .i64 (min y f)] 88)).heap.size):=by have:=HBa.out.size;show _≤_;simp only [World.size_alloc];omega
     go_wp2_with (at_builtin;refine wpList_app _ rfl (.tmp 39) (.tmp 47) 48 rfl w.heap.size 88 i0 (.agg #[.int .i64 0,.int .i64 0]) 2 16 Try.underlying48 HI.out.1 HI.out.2.1 HI.out.2.2.1 HI.out.2.2.2 rfl (by decide) (.slice Ao no' co) no' (ints (out)) rfl (HO1.out.1.alloc _) (wa.heap.size+1) (some ⟨wa.heap.size,0,none⟩) 1 1 (ints [x,min y f]) rfl (rd_new _ _ _ _ _ _ _ rfl (by omega) rfl rfl) (ones_ints _) (by unfold maxLen;omega) (by omega) hb2.out ?_)
     intro v1 w1 hown1 hgrow1
     obtain ⟨A1,c1,e1,_⟩:=own_form hown1
     subst e1
     rw [← ints_app] at hown1
     have HN:Hid (PP w w1 px x y (drop1 out x y f) A1 (no'+1) c1):=by
      refine ⟨by rw [HD1.out,List.length_append,HOL.out];simp;omega,by rw [HD1.out];exact hown1,(HBa.out.alloc HBa.out.size _).grown hgrow1 hb2.out (fun g hg=>(HO1.out.1.lt g hg).1),?_⟩
      rw [hgrow1.block px (by have:=HX.out.2.1;simp only [World.size_alloc];omega) (fun e=>by have:=HO1.out.2 px e.symm;omega)]
      exact (((Below.refl _ _).alloc (Nat.le_refl _) _).block px (by have:=HX.out.2.1;omega)).trans HX.out.1
     clear hown1 hgrow1
     go_wp2_with fail
     go_meet
     case rel=>exact ⟨_,_,_,rfl,Nat.le_refl _,HN⟩
    ·have HD1:Hid (drop1 out x y f=out):=by show _=_;unfold drop1;rw [if_neg c1]
     have d1:decide (x<min y f)=false:=decide_eq_false c1
     have HN:Hid (PP w wa px x y (drop1 out x y f) Ao no' co):=by rw [HD1.out];exact ⟨HOL.out,HO1.out.1,HBa.out,HX.out.1⟩
     go_wp2_with fail
     go_meet
     case rel=>exact ⟨_,_,_,rfl,by omega,HN⟩
   case rest =>
   obtain ⟨A1,n1,c1,rfl,hn1,HP⟩:=hcut
   obtain ⟨wb,hwb⟩:∃ wb:World,wc=wb:=⟨_,rfl⟩
   subst hwb
   obtain ⟨o1,ho1⟩:∃ o,Hid (drop1 out x y f=o):=⟨_,rfl⟩
   rw [ho1.out] at HP HST
   have hcc:=two_cells HP.out.2.2.2
   obtain ⟨hc0,hc1⟩:=hcc
   by_cases c2:max x t<y
   ·have HD2:Hid (drop2 o1 x y t=o1 ++ [max x t,y]):=by show _=_;unfold drop2;rw [if_pos c2]
    have d2:decide (max x t<y)=true:=decide_eq_true c2
    have hb2:Hid (w.heap.size≤(wc.alloc (.cells #[.int .i64 (max x t),.int .i64 (y)] 88)).heap.size):=by have:=HP.out.2.2.1.size;show _≤_;simp only [World.size_alloc];omega
    go_wp2_with (at_builtin;refine wpList_app _ rfl (.tmp 56) (.tmp 64) 48 rfl w.heap.size 88 i0 (.agg #[.int .i64 0,.int .i64 0]) 2 16 Try.underlying48 HI.out.1 HI.out.2.1 HI.out.2.2.1 HI.out.2.2.2 rfl (by decide) (.slice A1 n1 c1) n1 (ints (o1)) rfl (HP.out.2.1.alloc _) (wc.heap.size+1) (some ⟨wc.heap.size,0,none⟩) 1 1 (ints [max x t,y]) rfl (rd_new _ _ _ _ _ _ _ rfl (by omega) rfl rfl) (ones_ints _) (by unfold maxLen;omega) (by omega) hb2.out ?_)
    intro v1 w1 hown1 hgrow1
    obtain ⟨A2,c2',e1,_⟩:=own_form hown1
    subst e1
    rw [← ints_app] at hown1
    have HN:Hid (DropW w w1 es f t (k+1) (.slice A2 (n1+1) c2')):=by
     refine ⟨n1+1,_,HST.out,by rw [HD2.out,List.length_append,HP.out.1];simp;omega,by rw [HD2.out];exact hown1,(HP.out.2.2.1.alloc HP.out.2.2.1.size _).grown hgrow1 hb2.out (fun g hg=>(HP.out.2.1.lt g hg).1)⟩
    clear hown1 hgrow1
    go_wp2_with fail
    go_roundw
    case rel=>exact ⟨k+1,by omega,by go_num,⟨_,_,_,rfl⟩,HN⟩
    case measure=>simp [intOf];omega
   ·have HD2:Hid (drop2 o1 x y t=o1):=by show _=_;unfold drop2;rw [if_neg c2]
    have d2:decide (max x t<y)=false:=decide_eq_false c2
    have HN:Hid (DropW w wc es f t (k+1) (.slice A1 n1 c1)):=⟨n1,_,HST.out,by rw [HD2.out];exact HP.out.1,by rw [HD2.out];exact HP.out.2.1,HP.out.2.2.1⟩
    go_wp2_with fail
    go_roundw
    case rel=>exact ⟨k+1,by omega,by go_num,⟨_,_,_,rfl⟩,HN⟩
    case measure=>simp [intOf];omega
  ·have hlti:¬ (k:Int)<(n:Int):=by omega
   obtain rfl:k=n:=by omega
   have HE:=Lib.hid (drop_eq HOk.out cf.1 hft ct.2 k hn.out HD.out)
   have hhp:wr.heap[p]?=some (.cells cur Tt (0,0)):=(HB.out.block p hpz).trans HHP.out
   have HHP2:=Lib.hid hhp
   have hfz:wr.frozen? ⟨p,o,none⟩=false:=free_slot hhp
   clear hhp
   go_wp2_with fail
   go_end0
   have HG:Hid (wr.grownBy (wr.setCell ⟨p,o,none⟩ (.slice Ao no' co)) (some p)):=grown_of (Below.refl _ _) p o _
   have hk2:=HO.out.kept HG.out (by
    by_cases hb:(Value.slice Ao no' co).ownBlock=none
    ·exact .inl hb
    ·exact .inr fun e=>by have:=(HO.out.lt p e).1;omega)
   obtain ⟨_,_,e,hnc2,_,_,hrd2⟩:=own_form hk2
   simp only [Value.slice.injEq] at e
   obtain ⟨rfl,_,rfl⟩:=e
   exact ⟨rfl,⟨.slice Ao no' co,⟨ok_turnF es f t false HOk.out cf.1 hft ct.2,Ao,no',co,by rw [← HE.out];exact HOL.out,⟨set_slot HHP2.out o _,slot_set HCU.out⟩,hnc2,by rw [← HE.out];exact hrd2,own_away HO.out hpz⟩,.inl fun A n c e a ha=>by cases e;exact own_from HO.out a ha⟩,grown_of HB.out p o _⟩
theorem rdrop_new (es:List Int) (p o:Nat) (Tt:TypeId) (cur:Array Value) (f t:Int) (w:World) (h:RefIn w p o Tt cur es) (hm:(es.length+1) * 32≤140737488355328) :
  Calls Try.prog 65 #[.pointer (some ⟨p,o,none⟩),.int .i64 f,.int .i64 t] w fun e w'=>e=.returned (.tuple #[])∧(∃ v,RefIn w' p o Tt (cur.setIfInBounds o v) (turn es f t false)∧(NewV w v∨cur[o]?=some v))∧w.grownBy w' (some p):=by
 unfold turn
 by_cases hft:clamp t≤clamp f
 ·rw [if_pos hft]
  have W1:=Lib.hid (fun W=>rwithin_any f W)
  have W2:=Lib.hid (fun W=>rwithin_any t W)
  obtain ⟨f',hf⟩:∃ x,Hid (clamp f=x):=⟨_,rfl⟩
  obtain ⟨t',ht⟩:∃ x,Hid (clamp t=x):=⟨_,rfl⟩
  rw [hf.out] at W1 hft
  rw [ht.out] at W2 hft
  have HH:=Lib.hid h
  clear h
  go_enter Try.func65,Try.ntmps65
  go_wp2_with fail
  refine (W1.out _).mono ?_;rintro e w' ⟨rfl,rfl⟩
  go_wp2_with fail
  refine (W2.out _).mono ?_;rintro e w' ⟨rfl,rfl⟩
  go_wp2_with fail
  have HE:Hid ((∃ v,RefIn w p o Tt (cur.setIfInBounds o v) es∧(NewV w v∨cur[o]?=some v))∧w.grownBy w (some p)):=⟨HH.out.same2,⟨rfl,rfl,rfl,Nat.le_refl _,fun _ _ _=>rfl⟩⟩
  first | (go_end0;exact ⟨rfl,HE.out⟩) | exact bodyPost_ret (v:=.tuple #[]) (by simp [results,Try.results65,go_sem]) rfl ⟨rfl,HE.out⟩
 ·rw [if_neg hft]
  exact rdrop_donew es p o Tt cur f t w h hm (by omega)
theorem radd_donew (es:List Int) (p o:Nat) (Tt:TypeId) (cur:Array Value) (f0 t0:Int) (w:World) (h:RefIn w p o Tt cur es) (hm:(es.length+2) * 32≤140737488355328) (hft:clamp f0<clamp t0) :
  Calls Try.prog 61 #[.pointer (some ⟨p,o,none⟩),.int .i64 f0,.int .i64 t0] w fun e w'=>e=.returned (.tuple #[])∧(∃ v,RefIn w' p o Tt (cur.setIfInBounds o v) (turnF es (clamp f0) (clamp t0) true)∧(NewV w v∨cur[o]?=some v))∧w.grownBy w' (some p):=by
 have cf:=clamp_in f0
 have ct:=clamp_in t0
 have W1:=Lib.hid (fun W=>rwithin_any f0 W)
 have W2:=Lib.hid (fun W=>rwithin_any t0 W)
 obtain ⟨f,hf⟩:∃ x,Hid (clamp f0=x):=⟨_,rfl⟩
 obtain ⟨t,ht⟩:∃ x,Hid (clamp t0=x):=⟨_,rfl⟩
 rw [hf.out] at W1 cf hft ⊢
 rw [ht.out] at W2 ct hft ⊢
 have hle:¬ t≤f:=by omega
 have hpz:=h.lt
 have HOk:=Lib.hid h.1
 obtain ⟨_,A,n,c,hn0,⟨hhp,hcur⟩,hnc,hrd,haw⟩:=h
 have HCU:=Lib.hid hcur
 have hn:=Lib.hid hn0
 have HR:=Lib.hid hrd
 have HHP:=Lib.hid hhp
 have hnb:(n:Int)≤2199023255552:=by omega
 have hncI:(n:Int)≤(c:Int):=by omega
 obtain ⟨i0,hi,hz0,hz1,hz2⟩:=info_parts infoP
 have HI:=Lib.hid (And.intro hi (And.intro hz0 (And.intro hz1 hz2)))
 have hcell:w.cell? ⟨p,o,none⟩=some (.slice A n c):=cell_slot hhp hcur
 clear hhp hcur hrd haw hn0 hi hz0 hz1 hz2
 go_enter Try.func61,Try.ntmps61
 go_wp2_with fail
 refine (W1.out _).mono ?_;rintro e w' ⟨rfl,rfl⟩
 go_wp2_with fail
 refine (W2.out _).mono ?_;rintro e w' ⟨rfl,rfl⟩
 go_wp2_with fail
 go_loopw [1,2,6,7,8] (fun vf vt v vd i wr=>∃ (k no:Nat) (F T:Int) (d:Bool),k≤n∧no≤k+1∧i=.int .i64 k∧vf=.int .i64 F∧vt=.int .i64 T∧vd=.bool d∧(∃ Ao co,v=.slice Ao no co)∧Hid (AddW w wr es f t k F T d v no)) (fun _ _ _ _ i _=>n - (intOf i).toNat)
 case atStart=>exact ⟨0,0,f,t,false,Nat.zero_le _,by omega,rfl,rfl,rfl,rfl,⟨_,_,rfl⟩,[],AddI.nil es f t cf.1 hft ct.2,rfl,own_nil _ _ _ _,Below.refl _ _⟩
 case round =>
  clear hcell
  obtain ⟨k,no,F,T,d,hk,hno,rfl,rfl,rfl,rfl,⟨Ao,co,rfl⟩,HK⟩:=hrel
  obtain ⟨out,hd,hol,hown,hbw⟩:=HK.out
  have HD:=Lib.hid hd
  have HOL:=Lib.hid hol
  have HO:=Lib.hid hown
  have HB:=Lib.hid hbw
  have hlo:=hd.lo
  have hlt0:=hd.lt
  have hhi:=hd.hi
  have hcellr:wr.cell? ⟨p,o,none⟩=some (.slice A n c):=by rw [hbw.cell (p:=⟨p,o,none⟩) hpz];exact cell_slot HHP.out HCU.out
  clear HK hd hol hown hbw
  by_cases hlt:k<n
  ·have hlti:(k:Int)<(n:Int):=by omega
   obtain ⟨b,off,hA,hbn,hcs⟩:=HR.out.2 (by omega)
   subst hA
   have hl1:2 * k+1<es.length:=by have:=hn.out;omega
   obtain ⟨x,hx⟩:∃ x,Hid (es.getD (2 * k) 0=x):=⟨_,rfl⟩
   obtain ⟨y,hy⟩:∃ y,Hid (es.getD (2 * k+1) 0=y):=⟨_,rfl⟩
   have hxy:=get_mono HOk.out.1 (2 * k) (2 * k+1) (by omega) hl1
   rw [hx.out,hy.out] at hxy
   have hcx:wr.cell? ⟨b,off+k * 2,none⟩=some (.int .i64 x):=by
    rw [HB.out.cell (p:=⟨b,off+k * 2,none⟩) hbn,show off+k * 2=off+2 * k by omega,hcs (2 * k) _ (ints_get es _ (by omega)),hx.out]
   have hcy:wr.cell? ⟨b,off+k * 2+1,none⟩=some (.int .i64 y):=by
    rw [HB.out.cell (p:=⟨b,off+k * 2+1,none⟩) hbn,show off+k * 2+1=off+(2 * k+1) by omega,hcs (2 * k+1) _ (ints_get es _ (by omega)),hy.out]
   clear hcs
   have nb:=World.new_ne wr _ hcx
   have HBa:Hid (Below w.heap.size w (wr.alloc (.cells #[.int .i64 x,.int .i64 y] 88))):=HB.out.alloc HB.out.size _
   have HOa:Hid ((wr.alloc (.cells #[.int .i64 x,.int .i64 y] 88)).ownsRow w.heap.size 88 2 (.slice Ao no co) no (ints out)):=HO.out.alloc _
   have hb2:Hid (∀ o o2:Obj,w.heap.size≤((wr.alloc o).alloc o2).heap.size):=fun o o2=>by have:=HB.out.size;simp only [World.size_alloc];omega
   have hno':no≤2199023255553:=by omega
   have HNA:Hid (AddI es f t (k+1) F T d (out ++ [x,y])→∀ A1 c1 w1,w1.ownsRow w.heap.size 88 2 (.slice A1 (no+1) c1) (no+1) (ints out ++ ints [x,y])→((wr.alloc (.cells #[.int .i64 x,.int .i64 y] 88)).alloc (.cells #[.int .i64 x,.int .i64 y] 88)).grownBy w1 (Value.slice Ao no co).ownBlock→AddW w w1 es f t (k+1) F T d (.slice A1 (no+1) c1) (no+1)):=fun hI A1 c1 w1 hown1 hgrow1 =>
    ⟨out ++ [x,y],hI,ow_len HOL.out x y,by rw [ints_app];exact hown1,(HBa.out.alloc HBa.out.size _).grown hgrow1 (hb2.out _ _) (fun g hg=>(HOa.out.lt g hg).1)⟩
   cases d with
   | true =>
     have HBH:=Lib.hid (HD.out.behind HOk.out hl1).2.2
     have hTx:=(HD.out.done rfl).1 (2 * k) (Nat.le_refl _) (by omega)
     rw [hx.out] at hTx
     rw [hx.out,hy.out] at HBH
     have t1:decide (y<F)=false:=decide_eq_false (by omega)
     have t2:decide (T<x)=true:=decide_eq_true (by omega)
     have q1:¬ y<F:=by omega
     go_wp2_with (at_builtin;refine wpList_app _ rfl (.tmp 53) (.tmp 55) 48 rfl w.heap.size 88 i0 (.agg #[.int .i64 0,.int .i64 0]) 2 16 Try.underlying48 HI.out.1 HI.out.2.1 HI.out.2.2.1 HI.out.2.2.2 rfl (by decide) (.slice Ao no co) no (ints out) rfl (HOa.out.alloc _) ((wr.alloc (.cells #[.int .i64 x,.int .i64 y] 88)).heap.size+1) (some ⟨(wr.alloc (.cells #[.int .i64 x,.int .i64 y] 88)).heap.size,0,none⟩) 1 1 (ints [x,y]) (by simp [Act.eval]) (rd_new _ _ _ _ _ _ _ rfl (by omega) rfl rfl) (ones_ints _) (by unfold maxLen;omega) (by omega) (hb2.out _ _) ?_)
     intro v1 w1 hown1 hgrow1
     obtain ⟨A1,c1,e1,_⟩:=own_form hown1
     subst e1
     have HN:=Lib.hid (HNA.out HBH.out A1 c1 w1 hown1 hgrow1)
     clear hown1 hgrow1
     go_wp2_with fail
     go_roundw
     case rel=>exact ⟨k+1,no+1,F,T,true,by omega,by omega,by go_num,rfl,rfl,rfl,⟨_,_,rfl⟩,HN⟩
     case measure=>simp [intOf];omega
   | false =>
     by_cases h1:y<F
     ·have HAH:=Lib.hid (HD.out.ahead HOk.out hl1 (by rw [hy.out];exact h1))
      rw [hx.out,hy.out] at HAH
      have t1:decide (y<F)=true:=decide_eq_true h1
      go_wp2_with (at_builtin;refine wpList_app _ rfl (.tmp 37) (.tmp 39) 48 rfl w.heap.size 88 i0 (.agg #[.int .i64 0,.int .i64 0]) 2 16 Try.underlying48 HI.out.1 HI.out.2.1 HI.out.2.2.1 HI.out.2.2.2 rfl (by decide) (.slice Ao no co) no (ints out) rfl (HOa.out.alloc _) ((wr.alloc (.cells #[.int .i64 x,.int .i64 y] 88)).heap.size+1) (some ⟨(wr.alloc (.cells #[.int .i64 x,.int .i64 y] 88)).heap.size,0,none⟩) 1 1 (ints [x,y]) (by simp [Act.eval]) (rd_new _ _ _ _ _ _ _ rfl (by omega) rfl rfl) (ones_ints _) (by unfold maxLen;omega) (by omega) (hb2.out _ _) ?_)
      intro v1 w1 hown1 hgrow1
      obtain ⟨A1,c1,e1,_⟩:=own_form hown1
      subst e1
      have HN:=Lib.hid (HNA.out HAH.out A1 c1 w1 hown1 hgrow1)
      clear hown1 hgrow1
      go_wp2_with fail
      go_roundw
      case rel=>exact ⟨k+1,no+1,F,T,false,by omega,by omega,by go_num,rfl,rfl,rfl,⟨_,_,rfl⟩,HN⟩
      case measure=>simp [intOf];omega
     ·have t1:decide (y<F)=false:=decide_eq_false h1
      by_cases h2:T<x
      ·have t2:decide (T<x)=true:=decide_eq_true h2
       have HON:=Lib.hid (HD.out.out_now (ahead_of HOk.out hl1 (by rw [hx.out];exact h2)))
       have HBH:=Lib.hid (HON.out.behind HOk.out hl1).2.2
       rw [hx.out,hy.out] at HBH
       go_wp2_with (at_builtin;refine wpList_app _ rfl (.tmp 47) (.tmp 51) 48 rfl w.heap.size 88 i0 (.agg #[.int .i64 0,.int .i64 0]) 2 16 Try.underlying48 HI.out.1 HI.out.2.1 HI.out.2.2.1 HI.out.2.2.2 rfl (by decide) (.slice Ao no co) no (ints out) rfl (HOa.out.alloc _) ((wr.alloc (.cells #[.int .i64 x,.int .i64 y] 88)).heap.size+1) (some ⟨(wr.alloc (.cells #[.int .i64 x,.int .i64 y] 88)).heap.size,0,none⟩) 1 1 (ints [F,T]) (by simp [Act.eval]) (rd_new _ _ _ _ _ _ _ rfl (by omega) rfl rfl) (ones_ints _) (by unfold maxLen;omega) (by omega) (hb2.out _ _) ?_)
       intro v1 w1 hown1 hgrow1
       obtain ⟨A1,c1,e1,_⟩:=own_form hown1
       subst e1
       have HO1:Hid (w1.ownsRow w.heap.size 88 2 (.slice A1 (no+1) c1) (no+1) (ints (out ++ [F,T]))):=by rw [ints_app];exact hown1
       have HB1:Hid (Below w.heap.size w w1):=(HBa.out.alloc HBa.out.size _).grown hgrow1 (hb2.out _ _) (fun g hg=>(HOa.out.lt g hg).1)
       have hne:(Value.slice Ao no co).ownBlock≠some wr.heap.size:=fun e=>by have:=(HO.out.lt _ e).2;omega
       have hblk:w1.heap[wr.heap.size]?=some (.cells #[.int .i64 x,.int .i64 y] 88 (0,0)):=by
        rw [hgrow1.block wr.heap.size (by simp only [World.size_alloc];omega) (fun e=>hne e.symm)]
        exact (((Below.refl _ _).alloc (Nat.le_refl _) _).block wr.heap.size (by simp)).trans (heap_alloc_new _ _)
       have HBLK:=Lib.hid hblk
       obtain ⟨hx1,hy1⟩:=two_cells hblk
       have hw1s:Hid (wr.heap.size+1<w1.heap.size):=by have:=hgrow1.size;simp only [World.size_alloc] at this;show _<_;omega
       clear hown1 hgrow1 hne hblk
       have hb3:Hid (w.heap.size≤(w1.alloc (.cells #[.int .i64 x,.int .i64 y] 88)).heap.size):=by have:=HB1.out.size;show _≤_;simp only [World.size_alloc];omega
       go_wp2_with (at_builtin;refine wpList_app _ rfl (.tmp 53) (.tmp 55) 48 rfl w.heap.size 88 i0 (.agg #[.int .i64 0,.int .i64 0]) 2 16 Try.underlying48 HI.out.1 HI.out.2.1 HI.out.2.2.1 HI.out.2.2.2 rfl (by decide) (.slice A1 (no+1) c1) (no+1) (ints (out ++ [F,T])) rfl (HO1.out.alloc _) (w1.heap.size+1) (some ⟨w1.heap.size,0,none⟩) 1 1 (ints [x,y]) (by simp [Act.eval]) (rd_new _ _ _ _ _ _ _ rfl (by omega) rfl rfl) (ones_ints _) (by unfold maxLen;omega) (by omega) hb3.out ?_)
       intro v2 w2 hown2 hgrow2
       obtain ⟨A2,c2,e2,_⟩:=own_form hown2
       subst e2
       have HN:Hid (AddW w w2 es f t (k+1) F T true (.slice A2 (no+1+1) c2) (no+1+1)) :=
        ⟨out ++ [F,T] ++ [x,y],HBH.out,ow_len (ow_len HOL.out F T) x y,by rw [ints_app];exact hown2,(HB1.out.alloc HB1.out.size _).grown hgrow2 hb3.out (fun g hg=>(HO1.out.lt g hg).1)⟩
       have hnk:Hid (no+1+1≤k+1+1):=by
        have h1:=HBH.out.len
        have h2:=ow_len (ow_len HOL.out F T) x y
        simp at h1 h2
        show _≤_
        omega
       clear hown2 hgrow2
       go_wp2_with fail
       go_roundw
       case rel=>exact ⟨k+1,no+1+1,F,T,true,by omega,hnk.out,by go_num,rfl,rfl,rfl,⟨_,_,rfl⟩,HN⟩
       case measure=>simp [intOf];omega
      ·have t2:decide (T<x)=false:=decide_eq_false h2
       have HME:=Lib.hid (HD.out.meets HOk.out hl1 (by rw [hy.out];exact h1) (by rw [hx.out];exact h2))
       rw [hx.out,hy.out] at HME
       have HN:Hid (AddW w (wr.alloc (.cells #[.int .i64 x,.int .i64 y] 88)) es f t (k+1) (min F x) (max T y) false (.slice Ao no co) no):=⟨out,HME.out,HOL.out,HOa.out,HBa.out⟩
       go_wp2_with fail
       go_roundw
       case rel=>exact ⟨k+1,no,min F x,max T y,false,by omega,by omega,by go_num,rfl,rfl,rfl,⟨_,_,rfl⟩,HN⟩
       case measure=>simp [intOf];omega
  ·have hlti:¬ (k:Int)<(n:Int):=by omega
   obtain rfl:k=n:=by omega
   have HFIN:Hid (∀ (out2:List Int) (W:World) (Ax:Option Addr) (nx cx:Nat),AddI es f t k F T true out2→out2.length=nx * 2→W.ownsRow w.heap.size 88 2 (.slice Ax nx cx) nx (ints out2)→Below w.heap.size w W→(∃ v,RefIn (W.setCell ⟨p,o,none⟩ (.slice Ax nx cx)) p o Tt (cur.setIfInBounds o v) (turnF es f t true)∧(NewV w v∨cur[o]?=some v))∧w.grownBy (W.setCell ⟨p,o,none⟩ (.slice Ax nx cx)) (some p)):=fun out2 W Ax nx cx hI hl hO hB=>by
    have HE:=AddI.eq HOk.out cf.1 hft ct.2 k hn.out hI
    have hhp:W.heap[p]?=some (.cells cur Tt (0,0)):=(hB.block p hpz).trans HHP.out
    have HG:Hid (W.grownBy (W.setCell ⟨p,o,none⟩ (.slice Ax nx cx)) (some p)):=grown_of (Below.refl _ _) p o _
    have hk2:=hO.kept HG.out (by
     by_cases hb:(Value.slice Ax nx cx).ownBlock=none
     ·exact .inl hb
     ·exact .inr fun e=>by have:=(hO.lt p e).1;omega)
    obtain ⟨_,_,e,hnc2,_,_,hrd2⟩:=own_form hk2
    simp only [Value.slice.injEq] at e
    obtain ⟨rfl,_,rfl⟩:=e
    exact ⟨⟨.slice Ax nx cx,⟨ok_turnF es f t true HOk.out cf.1 hft ct.2,Ax,nx,cx,by rw [← HE];exact hl,⟨set_slot hhp o _,slot_set HCU.out⟩,hnc2,by rw [← HE];exact hrd2,own_away hO hpz⟩,.inl fun A n c e a ha=>by cases e;exact own_from hO a ha⟩,grown_of hB p o _⟩
   have hhp:wr.heap[p]?=some (.cells cur Tt (0,0)):=(HB.out.block p hpz).trans HHP.out
   have hfz:wr.frozen? ⟨p,o,none⟩=false:=free_slot hhp
   have HHP2:=Lib.hid hhp
   clear hhp
   cases d with
   | true =>
     have HE:=Lib.hid (HFIN.out out wr Ao no co HD.out HOL.out HO.out HB.out)
     go_wp2_with fail
     go_end0
     exact ⟨rfl,HE.out⟩
   | false =>
     have HON:=Lib.hid (HD.out.out_now (fun i h1 h2=>by have:=hn.out;omega))
     have hb3:Hid (w.heap.size≤(wr.alloc (.cells #[.int .i64 F,.int .i64 T] 88)).heap.size):=by have:=HB.out.size;show _≤_;simp only [World.size_alloc];omega
     have hno':no≤2199023255553:=by omega
     go_wp2_with (at_builtin;refine wpList_app _ rfl (.tmp 67) (.tmp 71) 48 rfl w.heap.size 88 i0 (.agg #[.int .i64 0,.int .i64 0]) 2 16 Try.underlying48 HI.out.1 HI.out.2.1 HI.out.2.2.1 HI.out.2.2.2 rfl (by decide) (.slice Ao no co) no (ints out) rfl (HO.out.alloc _) (wr.heap.size+1) (some ⟨wr.heap.size,0,none⟩) 1 1 (ints [F,T]) (by simp [Act.eval]) (rd_new _ _ _ _ _ _ _ rfl (by omega) rfl rfl) (ones_ints _) (by unfold maxLen;omega) (by omega) hb3.out ?_)
     intro v1 w1 hown1 hgrow1
     obtain ⟨A1,c1,e1,_⟩:=own_form hown1
     subst e1
     have HB1:Hid (Below w.heap.size w w1):=(HB.out.alloc HB.out.size _).grown hgrow1 hb3.out (fun g hg=>(HO.out.lt g hg).1)
     have HE:=Lib.hid (HFIN.out (out ++ [F,T]) w1 A1 (no+1) c1 HON.out (ow_len HOL.out F T) (by rw [ints_app];exact hown1) HB1.out)
     have hcell1:w1.cell? ⟨p,o,none⟩=some (.slice A k c):=by rw [HB1.out.cell (p:=⟨p,o,none⟩) hpz];exact cell_slot HHP.out HCU.out
     have hfz1:w1.frozen? ⟨p,o,none⟩=false:=by rw [HB1.out.frozen (p:=⟨p,o,none⟩) hpz];exact free_slot HHP.out
     clear hown1 hgrow1
     go_wp2_with fail
     go_end0
     exact ⟨rfl,HE.out⟩
theorem radd_new (es:List Int) (p o:Nat) (Tt:TypeId) (cur:Array Value) (f t:Int) (w:World) (h:RefIn w p o Tt cur es) (hm:(es.length+2) * 32≤140737488355328) :
  Calls Try.prog 61 #[.pointer (some ⟨p,o,none⟩),.int .i64 f,.int .i64 t] w fun e w'=>e=.returned (.tuple #[])∧(∃ v,RefIn w' p o Tt (cur.setIfInBounds o v) (turn es f t true)∧(NewV w v∨cur[o]?=some v))∧w.grownBy w' (some p):=by
 unfold turn
 by_cases hft:clamp t≤clamp f
 ·rw [if_pos hft]
  have W1:=Lib.hid (fun W=>rwithin_any f W)
  have W2:=Lib.hid (fun W=>rwithin_any t W)
  obtain ⟨f',hf⟩:∃ x,Hid (clamp f=x):=⟨_,rfl⟩
  obtain ⟨t',ht⟩:∃ x,Hid (clamp t=x):=⟨_,rfl⟩
  rw [hf.out] at W1 hft
  rw [ht.out] at W2 hft
  have HH:=Lib.hid h
  clear h
  go_enter Try.func61,Try.ntmps61
  go_wp2_with fail
  refine (W1.out _).mono ?_;rintro e w' ⟨rfl,rfl⟩
  go_wp2_with fail
  refine (W2.out _).mono ?_;rintro e w' ⟨rfl,rfl⟩
  go_wp2_with fail
  have HE:Hid ((∃ v,RefIn w p o Tt (cur.setIfInBounds o v) es∧(NewV w v∨cur[o]?=some v))∧w.grownBy w (some p)):=⟨HH.out.same2,⟨rfl,rfl,rfl,Nat.le_refl _,fun _ _ _=>rfl⟩⟩
  first | (go_end0;exact ⟨rfl,HE.out⟩) | exact bodyPost_ret (v:=.tuple #[]) (by simp [results,Try.results61,go_sem]) rfl ⟨rfl,HE.out⟩
 ·rw [if_neg hft]
  exact radd_donew es p o Tt cur f t w h hm (by omega)
def Nw (w:World) (cu:Array Value):Prop:=∀ v,cu[0]?=some v→NewV w v
theorem nw_first {w w1:World} {v:Value} (hs:w.heap.size≤w1.heap.size) (h:NewV w1 v∨(#[Value.slice none 0 0]:Array Value)[0]?=some v):Nw w ((#[Value.slice none 0 0]:Array Value).setIfInBounds 0 v):=fun u hu=>by
 have e:u=v:=by simpa using hu.symm
 subst e
 rcases h with h | h
 ·exact fun A n c e a ha=>Nat.le_trans hs (h A n c e a ha)
 ·have e:u=.slice none 0 0:=by simpa using h.symm
  subst e
  intro A n c e a ha
  cases e;cases ha
theorem nw_next {w wz:World} {p:Nat} {T:TypeId} {cu:Array Value} {es:List Int} {v:Value} (hs:w.heap.size≤wz.heap.size) (hn:Nw w cu) (hr:RefIn wz p 0 T cu es) (h:NewV wz v∨cu[0]?=some v):Nw w (cu.setIfInBounds 0 v):=fun u hu=>by
 obtain ⟨_,A,n,c,_,⟨_,hc⟩,_⟩:=hr
 have e:u=v:=by
  have:=slot_set (u:=v) hc
  rw [this] at hu
  exact (Option.some.inj hu).symm
 subst e
 rcases h with h | h
 ·exact fun A n c e a ha=>Nat.le_trans hs (h A n c e a ha)
 ·exact hn _ h
theorem rgaps_new (es:List Int) (p o:Nat) (Tt:TypeId) (cur:Array Value) (f0 t0:Int) (w:World) (h:RefIn w p o Tt cur es) (hm:(es.length+4) * 32≤140737488355328) :
  Calls Try.prog 60 #[.pointer (some ⟨p,o,none⟩),.int .i64 f0,.int .i64 t0] w fun e w'=>∃ A n c,e=.returned (.slice A n c)∧(gapsF es f0 t0).length=n * 2∧n≤c∧Rd w' w'.heap.size A (n * 2) (ints (gapsF es f0 t0))∧(∀ a,A=some a→w.heap.size≤a.block)∧Below w.heap.size w w':=by
 have W1:=Lib.hid (fun W=>rwithin_any f0 W)
 have W2:=Lib.hid (fun W=>rwithin_any t0 W)
 obtain ⟨f,hf⟩:∃ x,Hid (clamp f0=x):=⟨_,rfl⟩
 obtain ⟨t,ht⟩:∃ x,Hid (clamp t0=x):=⟨_,rfl⟩
 rw [hf.out] at W1
 rw [ht.out] at W2
 have hpz:=h.lt
 have HH:=Lib.hid h
 obtain ⟨hok,A,n,c,hn0,⟨hhp,hcur⟩,hnc,hrd,haw⟩:=h
 have HCU:=Lib.hid hcur
 have HOk:=Lib.hid hok
 have hn:=Lib.hid hn0
 have HR:=Lib.hid hrd
 have HHP:=Lib.hid hhp
 have HGE:Hid (gapI es f t n=gapsF es f0 t0):=by
  rw [← hf.out,← ht.out]
  show _=_
  rw [gapI_clamp,gapI_eq hok f0 t0 n hn0]
 have hnb:(n:Int)≤2199023255552:=by omega
 have hncI:(n:Int)≤(c:Int):=by omega
 clear hhp hcur hrd hn0 hok haw
 go_enter Try.func60,Try.ntmps60
 go_wp2_with fail
 refine (W1.out _).mono ?_;rintro e w' ⟨rfl,rfl⟩
 go_wp2_with fail
 refine (W2.out _).mono ?_;rintro e w' ⟨rfl,rfl⟩
 go_wp2_with fail
 obtain ⟨g,hg⟩:∃ g,Hid (w.heap.size=g):=⟨_,rfl⟩
 obtain ⟨w1,hw1⟩:∃ w1,Hid (w.alloc (.cells #[.slice none 0 0] 50)=w1):=⟨_,rfl⟩
 have HN1:Hid (RefIn w1 g 0 50 #[.slice none 0 0] []∧Below w.heap.size w w1):=by
  rw [← hw1.out,← hg.out]
  exact ⟨rnew_put w,(Below.refl _ _).alloc (Nat.le_refl _) _⟩
 rw [hw1.out,hg.out]
 refine (radd_new [] g 0 50 #[.slice none 0 0] f t w1 HN1.out.1 (by decide)).mono ?_
 rintro e w2 ⟨rfl,⟨v1,h1,h1n⟩,h2⟩
 have HST:Hid ((∃ cu,RefIn w2 g 0 50 cu (gapI es f t 0)∧Nw w cu)∧Below w.heap.size w w2):=⟨⟨_,h1,nw_first HN1.out.2.size h1n⟩,HN1.out.2.grown h2 HN1.out.2.size (fun k hk=>by simp at hk;have:=hg.out;omega)⟩
 clear h1 h2 h1n
 go_wp2_with fail
 go_loopw [8] (fun i wr=>∃ k:Nat,k≤n∧i=.int .i64 k∧Hid ((∃ cu,RefIn wr g 0 50 cu (gapI es f t k)∧Nw w cu)∧Below w.heap.size w wr)) (fun i _=>n - (intOf i).toNat)
 case atStart=>exact ⟨0,Nat.zero_le _,rfl,HST⟩
 case round =>
  clear HST
  obtain ⟨k,hk,rfl,HK⟩:=hrel
  have hcellr:wr.cell? ⟨p,o,none⟩=some (.slice A n c):=by rw [HK.out.2.cell (p:=⟨p,o,none⟩) hpz];exact cell_slot HHP.out HCU.out
  by_cases hlt:k<n
  ·have hlti:(k:Int)<(n:Int):=by omega
   obtain ⟨b,off,hA,hbn,hcs⟩:=HR.out.2 (by omega)
   subst hA
   have hl1:2 * k+1<es.length:=by have:=hn.out;omega
   have HGL:=Lib.hid (gapI_len es f t k)
   obtain ⟨x,hx⟩:∃ x,Hid (es.getD (2 * k) 0=x):=⟨_,rfl⟩
   obtain ⟨y,hy⟩:∃ y,Hid (es.getD (2 * k+1) 0=y):=⟨_,rfl⟩
   have hcx:wr.cell? ⟨b,off+k * 2,none⟩=some (.int .i64 x):=by
    rw [HK.out.2.cell (p:=⟨b,off+k * 2,none⟩) hbn,show off+k * 2=off+2 * k by omega,hcs (2 * k) _ (ints_get es _ (by omega)),hx.out]
   have hcy:wr.cell? ⟨b,off+k * 2+1,none⟩=some (.int .i64 y):=by
    rw [HK.out.2.cell (p:=⟨b,off+k * 2+1,none⟩) hbn,show off+k * 2+1=off+(2 * k+1) by omega,hcs (2 * k+1) _ (ints_get es _ (by omega)),hy.out]
   have HGS:Hid (gapI es f t (k+1)=turn (gapI es f t k) x y false):=by show _=_;rw [← hx.out,← hy.out];rfl
   clear hcs
   go_wp2_with fail
   refine still_tail 17 (by kernel_rfl) (by kernel_rfl) ?_
   intro wz hwz
   have z0:wz.cell? ⟨p,o,none⟩=some (.slice (some ⟨b,off,none⟩) n c):=by rw [hwz];exact hcellr
   have zx:wz.cell? ⟨b,off+k * 2,none⟩=some (.int .i64 x):=by rw [hwz];exact hcx
   have zy:wz.cell? ⟨b,off+k * 2+1,none⟩=some (.int .i64 y):=by rw [hwz];exact hcy
   obtain ⟨cu,HKc,HKn⟩:=HK.out.1
   have HZ:Hid (RefIn wz g 0 50 cu (gapI es f t k)∧Below w.heap.size w wz):=by rw [hwz];exact ⟨HKc.below ((Below.refl _ _).drew),HK.out.2.drew⟩
   have HKN:=Lib.hid HKn
   clear hwz hcx hcy hcellr HK HKc HKn
   simp only [List.take_succ_cons,List.take_zero,List.drop_succ_cons,List.drop_zero]
   iterate 17 still_step
   refine wpStill_nil ?_
   go_wp2_with fail
   refine (rdrop_new _ g 0 50 cu x y wz HZ.out.1 (by have:=HGL.out;have:=hn.out;omega)).mono ?_
   rintro e w3 ⟨rfl,⟨v3,h1,h1n⟩,h2⟩
   have HN:Hid ((∃ cu,RefIn w3 g 0 50 cu (gapI es f t (k+1))∧Nw w cu)∧Below w.heap.size w w3):=by
    rw [HGS.out]
    exact ⟨⟨_,h1,nw_next HZ.out.2.size HKN.out HZ.out.1 h1n⟩,HZ.out.2.grown h2 HZ.out.2.size (fun k hk=>by simp at hk;have:=hg.out;omega)⟩
   clear h1 h2 h1n z0 zx zy
   go_wp2_with fail
   go_roundw
   case rel=>exact ⟨k+1,by omega,by go_num,HN⟩
   case measure=>simp [intOf];omega
  ·have hlti:¬ (k:Int)<(n:Int):=by omega
   obtain rfl:k=n:=by omega
   obtain ⟨cu,⟨_,A',n',c',h0',⟨h2',h2c⟩,h3',h4',_⟩,hnw⟩:=HK.out.1
   have HAW:Hid (∀ a,A'=some a→w.heap.size≤a.block):=fun a ha=>hnw _ h2c _ _ _ rfl a ha
   clear hnw
   have hcg:wr.cell? ⟨g,0,none⟩=some (.slice A' n' c'):=cell_slot h2' h2c
   rw [HGE.out] at h0' h4'
   have HF:=Lib.hid (And.intro h0' (And.intro h3' h4'))
   clear h0' h2' h2c h3' h4'
   go_wp2_with fail
   go_ret
   exact ⟨A',n',c',rfl,HF.out.1,HF.out.2.1,HF.out.2.2,HAW.out,HK.out.2⟩
end Go.Proofs.Ytoahkffdoaphlaa.Sp.Ref
