/- Joined texts. Conditions: as each theorem lists them. -/
import Derived.Test.YtoahkffdoaphlaaJSm
import Derived.Test.YtoahkffdoaphlaaJH1
import Derived.Test.YtoahkffdoaphlaaJMm
import Derived.Deep.RegionHeld3
import Derived.Outline
import Derived.Test.YtoahkffdoaphlaaJSh
set_option linter.unusedSimpArgs false
set_option linter.unusedVariables false
set_option maxRecDepth 100000
set_option maxHeartbeats 80000000
namespace Go.Proofs.Ytoahkffdoaphlaa.Sp
open Go Go.RowKit
theorem odd_any (k:Nat) (w:World) (hk:k≤9223372036854775807) :
  Calls Try.prog 95 #[.int .i64 (k:Int)] w fun e w'=>e=.returned (.bool (oddB k))∧w=w':=by
 cases ho:oddB k with
 | true =>
   have h:(((k:Int) % 2) == 1)=true:=by unfold oddB at ho;simp at ho ⊢;omega
   clear ho
   go_enter Try.func95,Try.ntmps95
   go_wp2
   go_ret
   exact ⟨rfl,rfl⟩
 | false =>
   have h:(((k:Int) % 2) == 1)=false:=by unfold oddB at ho;simp at ho ⊢;omega
   clear ho
   go_enter Try.func95,Try.ntmps95
   go_wp2
   go_ret
   exact ⟨rfl,rfl⟩
theorem within_any (n:Int) (w:World) :
  Calls Try.prog 97 #[.int .i64 n] w fun e w'=>e=.returned (.int .i64 (clamp n))∧w=w':=by
 have hc:n<0∨(0≤n∧n≤4611686018427387904)∨(0≤n∧4611686018427387904<n):=by omega
 rcases hc with h | ⟨h,h'⟩ | ⟨h,h'⟩
 all_goals
  obtain ⟨m,hm⟩:∃ m,Hid (clamp n=m):=⟨_,rfl⟩
  rw [hm.out]
  go_enter Try.func97,Try.ntmps97
  go_wp2
  all_goals
   go_ret
   refine ⟨ret_int ?_,rfl⟩
   rw [← hm.out]
   unfold clamp
   omega
end Go.Proofs.Ytoahkffdoaphlaa.Sp
namespace Go.Proofs.Ytoahkffdoaphlaa.Sp
open Go Go.RowKit
theorem infoI:(Try.prog.info? 3).map (fun i=>(i.zero,i.size,i.bytes))=some (some (.int .i64 0),1,8):=by kernel_rfl
theorem infoP:(Try.prog.info? 88).map (fun i=>(i.zero,i.size,i.bytes))=some (some (.agg #[.int .i64 0,.int .i64 0]),2,16):=by kernel_rfl
theorem pairs_any (es:List Int) (B:Nat) (A:Option Addr) (c:Nat) (w:World) (hx:Rd w B A es.length (ints es)) (hB:B≤w.heap.size) (he:es.length % 2=0) (hm:es.length * 8≤140737488355328) (hc:es.length≤c) :
  Calls Try.prog 94 #[.slice A es.length c] w fun e w'=>∃ v',e=.returned v'∧w'.ownsRow w.heap.size 88 2 v' (es.length / 2) (ints es)∧Below w.heap.size w w':=by
 have HX:=Lib.hid hx
 clear hx
 obtain ⟨n,hn⟩:∃ n,Hid (es.length=n):=⟨_,rfl⟩
 rw [hn.out] at he hm hc HX ⊢
 obtain ⟨i0,hi,hz0,hz1,hz2⟩:=info_parts infoP
 have HI:=Lib.hid (And.intro hi (And.intro hz0 (And.intro hz1 hz2)))
 have hmk:=fun W=>run_make (P:=Try.prog) W 48 88 i0 (.agg #[.int .i64 0,.int .i64 0]) Try.underlying48 hi hz0 .i64 .i64 0 ((n:Int) / 2) (by omega) (by omega) (by rw [hz2];omega) (by omega)
 simp only [hz1,Int.toNat_natCast,Int.toNat_zero] at hmk
 clear hi hz0 hz1 hz2
 have hto:Hid (((n:Int) / 2).toNat=n / 2):=by show _=_;omega
 rw [hto.out] at hmk
 go_enter Try.func94,Try.ntmps94
 go_wp2
 have hown0:Hid ((w.alloc (Obj.cells (madeCells #[Value.int IntKind.i64 0,Value.int IntKind.i64 0] (n / 2 * 2)) 88)).ownsRow w.heap.size 88 2 (.slice (some ⟨w.heap.size,0,none⟩) 0 (n / 2)) 0 []) :=
  World.ownsRow_made _ _ _ (Nat.le_refl _) (by unfold maxLen;omega) (by rw [size_madeCells])
 go_loopw [3,4] (fun v i wr=>∃ j:Nat,j≤n∧j % 2=0∧i=.int .i64 j∧(∃ Al cl,v=.slice Al (j / 2) cl)∧Hid (wr.ownsRow w.heap.size 88 2 v (j / 2) (ints (es.take j))∧Below w.heap.size w wr)) (fun _ i _=>n - (intOf i).toNat)
 case atStart=>exact ⟨0,Nat.zero_le _,rfl,rfl,⟨_,_,rfl⟩,hown0.out,(Below.refl _ _).alloc (Nat.le_refl _) _⟩
 case round =>
  clear hown0
  obtain ⟨j,hj,hj2,rfl,⟨Al,cl,rfl⟩,HK⟩:=hrel
  by_cases hlt:j<n
  ·have hj1:j+1<n:=by omega
   have hj1c:j+1<c:=by omega
   have hjc:j<c:=by omega
   have hlti:(j:Int)<(n:Int):=by omega
   have hlti1:(j:Int)+1<(n:Int):=by omega
   obtain ⟨b,off,hA,hbn,hcs⟩:=HX.out.2 (by omega)
   subst hA
   obtain ⟨x,hxv⟩:∃ x,Hid (es.getD j 0=x):=⟨_,rfl⟩
   obtain ⟨y,hyv⟩:∃ y,Hid (es.getD (j+1) 0=y):=⟨_,rfl⟩
   have hcx:wr.cell? ⟨b,off+j,none⟩=some (.int .i64 x):=by
    rw [HK.out.2.cell (p:=⟨b,off+j,none⟩) (Nat.lt_of_lt_of_le hbn hB),hcs j _ (ints_get es j (by rw [hn.out];omega)),hxv.out]
   have hcy:wr.cell? ⟨b,off+(j+1),none⟩=some (.int .i64 y):=by
    rw [HK.out.2.cell (p:=⟨b,off+(j+1),none⟩) (Nat.lt_of_lt_of_le hbn hB),hcs (j+1) _ (ints_get es (j+1) (by rw [hn.out];omega)),hyv.out]
   clear hcs
   have hsz:Hid (w.heap.size≤wr.heap.size):=HK.out.2.size
   have nx:=World.new_ne wr _ hcx
   have ny:=World.new_ne wr _ hcy
   go_wp2_with fail
   have s1:IntKind.i64.wrap ((j:Int)+1)=(j:Int)+1:=IntWalk.i64_in _ (by omega)
   have s2:0≤(j:Int)+1:=by omega
   have s3:((j:Int)+1).toNat=j+1:=by omega
   have hb':b<w.heap.size:=Nat.lt_of_lt_of_le hbn hB
   have hmax:j / 2+1≤maxLen:=by unfold maxLen;omega
   have hby:(j / 2+1) * 16≤140737488355328:=by omega
   have hbs:w.heap.size≤((wr.alloc (Obj.cells #[Value.int IntKind.i64 x,Value.int IntKind.i64 y] 88)).drew).heap.size:=by have:=hsz.out;simp;omega
   have HBS:=Lib.hid hbs
   have HB0:Hid (Below w.heap.size wr ((wr.alloc (Obj.cells #[Value.int IntKind.i64 x,Value.int IntKind.i64 y] 88)).drew)):=((Below.refl _ _).alloc hsz.out _).drew
   have HR:Hid (Rd ((wr.alloc (Obj.cells #[Value.int IntKind.i64 x,Value.int IntKind.i64 y] 88)).drew) (wr.heap.size+1) (some ⟨wr.heap.size,0,none⟩) (1 * 2) (ints [x,y])):=(rd_new wr _ _ _ _ _ _ rfl (by omega) rfl rfl).drew
   clear hbs
   go_region_held3 (fun w'=>w'.cell? ⟨b,off+j,none⟩=some (.int .i64 x)∧w'.cell? ⟨b,off+(j+1),none⟩=some (.int .i64 y)) (first | go_keep | exact ⟨(HB1.out.cell (p:=⟨b,off+j,none⟩) hb').trans hcx,(HB1.out.cell (p:=⟨b,off+(j+1),none⟩) hb').trans hcy⟩)
    ((refine step_own rfl (.tmp 15) (.tmp 26) 48 rfl w.heap.size 88 i0 (.agg #[.int .i64 0,.int .i64 0]) 2 16 Try.underlying48 HI.out.1 HI.out.2.1 HI.out.2.2.1 HI.out.2.2.2 rfl (by decide) (.slice Al (j / 2) cl) (j / 2) (ints (es.take j)) (by rfl) (HK.out.1.alloc _).drew (wr.heap.size+1) (some ⟨wr.heap.size,0,none⟩) 1 1 (ints [x,y]) (by rfl) HR.out (ones_ints _) hmax hby HBS.out ?_;intro v1 w1 hown1 hgrow1;have HB1:Hid (Below w.heap.size wr w1):=HB0.out.grown hgrow1 HBS.out (fun g hg=>(HK.out.1.lt g hg).1);have HO1:=Lib.hid hown1;clear hown1 hgrow1))
   have HN:Hid (w1.ownsRow w.heap.size 88 2 v1 ((j+2) / 2) (ints (es.take (j+2)))∧Below w.heap.size w w1):=by
    refine ⟨?_,HK.out.2.trans HB1.out⟩
    have e:=take_pair es (j / 2) (by rw [hn.out];omega)
    rw [show 2 * (j / 2+1)=j+2 by omega,show 2 * (j / 2)=j by omega,hxv.out,hyv.out] at e
    rw [show (j+2) / 2=j / 2+1 by omega,e,ints_app]
    exact HO1.out
   clear HO1 HB1 s1 s2 s3 hcx hcy nx ny HB0 HR HBS
   obtain ⟨A1,c1,e1,_⟩:=own_form HN.out.1
   subst e1
   go_wp2
   go_roundw
   case rel=>exact ⟨j+2,by omega,by omega,by go_num,⟨_,_,rfl⟩,HN⟩
   case measure=>simp [intOf];omega
  ·have hlti:¬ (j:Int)<(n:Int):=by omega
   obtain rfl:j=n:=by omega
   go_wp2
   go_ret
   refine ⟨_,rfl,?_,HK.out.2⟩
   have:=HK.out.1
   rwa [List.take_of_length_le (by rw [hn.out];exact Nat.le_refl _)] at this
theorem spans_any (es:List Int) (B:Nat) (p o:Nat) (A:Option Addr) (c:Nat) (w:World) (hp:w.cell? ⟨p,o,none⟩=some (.slice A es.length c)) (hx:Rd w B A es.length (ints es)) (hB:B≤w.heap.size) (he:es.length % 2=0) (hm:es.length * 8≤140737488355328) (hc:es.length≤c) :
  Calls Try.prog 100 #[.pointer (some ⟨p,o,none⟩)] w fun e w'=>∃ v',e=.returned v'∧w'.ownsRow w.heap.size 88 2 v' (es.length / 2) (ints es)∧Below w.heap.size w w':=by
 have H:=Lib.hid (pairs_any es B A c w hx hB he hm hc)
 clear hx he hm hc
 go_enter Try.func100,Try.ntmps100
 go_wp2_with (go_at_call 94;refine H.out.mono ?_;rintro e w' ⟨v',rfl,h1,h2⟩)
 have H1:=Lib.hid h1
 have H2:=Lib.hid h2
 clear h1 h2
 go_wp2
 go_ret
 exact ⟨_,rfl,H1.out,H2.out⟩
end Go.Proofs.Ytoahkffdoaphlaa.Sp
namespace Go.Proofs.Ytoahkffdoaphlaa.Sp
open Go Go.RowKit
theorem bs_any (es:List Int) (B:Nat) (A:Option Addr) (c:Nat) (x:Int) (w:World) (hx:Rd w B A es.length (ints es)) (hs:es.Pairwise (· < ·)) (hm:es.length * 8≤140737488355328) :
  Calls Try.prog 108 #[.slice A es.length c,.int .i64 x] w fun e w'=>e=.returned (.tuple #[.int .i64 ((lo es x:Nat):Int),.bool (es.contains x)])∧∃ q,w'=w.drewN q:=by
 rcases Nat.eq_zero_or_pos es.length with h0 | h0
 ·have e0:es=[]:=List.eq_nil_of_length_eq_zero h0
  subst e0
  refine (Try.slices_BinarySearch_int_empty A c x w).mono ?_
  rintro e w' ⟨rfl,rfl⟩
  exact ⟨rfl,0,rfl⟩
 ·obtain ⟨b,off,rfl,_,hc⟩:=hx.2 h0
  have:=Try.slices_BinarySearch_int b off es.length c es x w (Nat.le_refl _) (by omega) (fun j hj=>hc j _ (ints_get es j hj)) (by rw [List.take_length];exact hs.imp fun h=>Int.le_of_lt h)
  rw [List.take_length] at this
  exact this
/-- A set in a variable at block p. -/
def SetAt (w:World) (B p o:Nat) (es:List Int) (A:Option Addr) (c:Nat):Prop :=
 Ok es∧es.length * 8≤140737488355328∧es.length≤c∧okA A es.length c∧Rd w B A es.length (ints es)∧B≤w.heap.size∧w.cell? ⟨p,o,none⟩=some (.slice A es.length c)
theorem below_any (es:List Int) (B p o:Nat) (A:Option Addr) (c:Nat) (x:Int) (w:World) (h:SetAt w B p o es A c) :
  Calls Try.prog 98 #[.pointer (some ⟨p,o,none⟩),.int .i64 x] w fun e w'=>e=.returned (.int .i64 ((lo es x:Nat):Int))∧∃ q,w'=w.drewN q:=by
 obtain ⟨h1,h2,h3,h4,h5,h6,hp⟩:=h
 have H:=Lib.hid (bs_any es B A c x w h5 h1.1 h2)
 clear h1 h2 h3 h4 h5 h6
 go_enter Try.func98,Try.ntmps98
 go_wp2_with (go_at_call 108;refine H.out.mono ?_;rintro e w' ⟨rfl,q,rfl⟩)
 go_ret
 exact ⟨rfl,_,rfl⟩
theorem upto_any (es:List Int) (B p o:Nat) (A:Option Addr) (c:Nat) (x:Int) (w:World) (h:SetAt w B p o es A c) :
  Calls Try.prog 96 #[.pointer (some ⟨p,o,none⟩),.int .i64 x] w fun e w'=>e=.returned (.int .i64 ((up es x:Nat):Int))∧∃ q,w'=w.drewN q:=by
 obtain ⟨h1,h2,h3,h4,h5,h6,hp⟩:=h
 have H:=bs_any es B A c x w h5 h1.1 h2
 have hu:=up_contains es x h1.1
 have hl:=lo_le_len es x
 have hlb:(lo es x:Nat)≤17592186044416:=by omega
 clear h1 h2 h3 h4 h5 h6 hl
 cases hc:es.contains x with
 | true =>
   rw [hc] at H hu
   have HU:Hid (((up es x:Nat):Int)=(lo es x:Int)+1):=by show _=_;rw [hu];simp
   have H:=Lib.hid H
   clear hu hc
   go_enter Try.func96,Try.ntmps96
   go_wp2_with (go_at_call 108;refine H.out.mono ?_;rintro e w' ⟨rfl,q,rfl⟩)
   go_ret
   exact ⟨ret_int HU.out.symm,_,rfl⟩
 | false =>
   rw [hc] at H hu
   have HU:Hid (((up es x:Nat):Int)=(lo es x:Int)):=by show _=_;rw [hu];simp
   have H:=Lib.hid H
   clear hu hc
   go_enter Try.func96,Try.ntmps96
   go_wp2_with (go_at_call 108;refine H.out.mono ?_;rintro e w' ⟨rfl,q,rfl⟩)
   go_ret
   exact ⟨ret_int HU.out.symm,_,rfl⟩
theorem has_any (es:List Int) (B p o:Nat) (A:Option Addr) (c:Nat) (x:Int) (w:World) (h:SetAt w B p o es A c) :
  Calls Try.prog 50 #[.pointer (some ⟨p,o,none⟩),.int .i64 x] w fun e w'=>e=.returned (.bool (mem es x))∧∃ q,w'=w.drewN q:=by
 have H:=Lib.hid (upto_any es B p o A c x w h)
 have hu:=up_le_len es x
 have hb:up es x≤9223372036854775807:=by have:=h.2.1;omega
 obtain ⟨k,hk⟩:∃ k,Hid (up es x=k):=⟨_,rfl⟩
 rw [hk.out] at hb
 have HO:=Lib.hid (fun W=>odd_any k W hb)
 have HM:Hid (mem es x=oddB k):=by show _=_;unfold mem;rw [hk.out]
 rw [hk.out] at H
 rw [HM.out]
 obtain ⟨bb,hbb⟩:∃ bb,Hid (oddB k=bb):=⟨_,rfl⟩
 rw [hbb.out] at HO ⊢
 clear h hu hb
 go_enter Try.func50,Try.ntmps50
 go_wp2_with (first | (go_at_call 96;refine H.out.mono ?_;rintro e w' ⟨rfl,q,rfl⟩) | (go_at_call 95;refine (HO.out _).mono ?_;rintro e w' ⟨rfl,rfl⟩))
 go_ret
 exact ⟨rfl,_,rfl⟩
theorem first_any (es:List Int) (B p o:Nat) (A:Option Addr) (c:Nat) (x:Int) (w:World) (h:SetAt w B p o es A c) :
  Calls Try.prog 105 #[.pointer (some ⟨p,o,none⟩),.int .i64 x] w fun e w'=>e=.returned (.int .i64 (firstF es (max x 0)))∧∃ q,w'=w.drewN q:=by
 have H:=Lib.hid (upto_any es B p o A c (max x 0) w h)
 have hu:=up_le_len es (max x 0)
 have hb:up es (max x 0)≤9223372036854775807:=by have:=h.2.1;omega
 obtain ⟨k,hk⟩:∃ k,Hid (up es (max x 0)=k):=⟨_,rfl⟩
 have HF:Hid (firstF es (max x 0)=if oddB k=true then es.getD k 0 else (max x 0)):=by show _=_;unfold firstF;rw [hk.out]
 rw [hk.out] at hb H
 have HO:=Lib.hid (fun W=>odd_any k W hb)
 have hlt:oddB k=true→k<es.length:=fun ho=>by have:=up_lt_of_odd h.1 (max x 0) (by rw [hk.out];exact ho);rwa [hk.out] at this
 have hp:=h.2.2.2.2.2.2
 have hrd:=h.2.2.2.2.1
 have hc:=h.2.2.1
 rw [HF.out]
 cases hbb:oddB k with
 | true =>
   have hk2:=hlt hbb
   obtain ⟨b,off,rfl,hbB,hcs⟩:=hrd.2 (by omega)
   obtain ⟨z,hz⟩:∃ z,Hid (es.getD k 0=z):=⟨_,rfl⟩
   have hcell:w.cell? ⟨b,off+k,none⟩=some (.int .i64 z):=by rw [hcs k _ (ints_get es k hk2),hz.out]
   rw [hbb] at HO
   rw [if_pos rfl,hz.out]
   clear hcs hlt h hrd hu hb hbb
   go_enter Try.func105,Try.ntmps105
   go_wp2_with (first | (go_at_call 96;refine H.out.mono ?_;rintro e w' ⟨rfl,q,rfl⟩) | (go_at_call 95;refine (HO.out _).mono ?_;rintro e w' ⟨rfl,rfl⟩))
   go_ret
   exact ⟨rfl,_,rfl⟩
 | false =>
   rw [hbb] at HO
   rw [if_neg (by decide)]
   clear hlt h hrd hu hb hbb
   go_enter Try.func105,Try.ntmps105
   go_wp2_with (first | (go_at_call 96;refine H.out.mono ?_;rintro e w' ⟨rfl,q,rfl⟩) | (go_at_call 95;refine (HO.out _).mono ?_;rintro e w' ⟨rfl,rfl⟩))
   go_ret
   exact ⟨rfl,_,rfl⟩
theorem all_any (es:List Int) (B p o:Nat) (A:Option Addr) (c:Nat) (f t:Int) (w:World) (h:SetAt w B p o es A c) :
  Calls Try.prog 75 #[.pointer (some ⟨p,o,none⟩),.int .i64 f,.int .i64 t] w fun e w'=>e=.returned (.bool (allF es f t))∧∃ q,w'=w.drewN q:=by
 have cf:=clamp_in f
 obtain ⟨f',hf⟩:∃ x,Hid (clamp f=x):=⟨_,rfl⟩
 obtain ⟨t',ht⟩:∃ x,Hid (clamp t=x):=⟨_,rfl⟩
 rw [hf.out] at cf
 have W1:Hid (∀ W,Calls Try.prog 97 #[.int .i64 f] W fun e w'=>e=.returned (.int .i64 f')∧W=w'):=fun W=>by have:=within_any f W;rwa [hf.out] at this
 have W2:Hid (∀ W,Calls Try.prog 97 #[.int .i64 t] W fun e w'=>e=.returned (.int .i64 t')∧W=w'):=fun W=>by have:=within_any t W;rwa [ht.out] at this
 have H:=first_any es B p o A c f' w h
 rw [show max f' 0=f' by omega] at H
 have H:=Lib.hid H
 obtain ⟨z,hz⟩:∃ z,Hid (firstF es f'=z):=⟨_,rfl⟩
 rw [hz.out] at H
 have HA:Hid (allF es f t=decide (t'≤z)):=by show _=_;unfold allF;rw [hf.out,ht.out,hz.out]
 rw [HA.out]
 clear h
 go_enter Try.func75,Try.ntmps75
 go_wp2_with fail
 refine (W1.out _).mono ?_;rintro e w' ⟨rfl,rfl⟩
 go_wp2_with fail
 refine (W2.out _).mono ?_;rintro e w' ⟨rfl,rfl⟩
 go_wp2_with (go_at_call 105;refine H.out.mono ?_;rintro e w' ⟨rfl,q,rfl⟩)
 go_ret
 exact ⟨rfl,_,rfl⟩
end Go.Proofs.Ytoahkffdoaphlaa.Sp
