/- Joined texts. Conditions: as each theorem lists them. -/
import Derived.Test.YtccljifichaieaaDoorJ3b
import Derived.Laws.BitsAllLaws
set_option linter.unusedSimpArgs false
set_option linter.unusedVariables false
set_option maxRecDepth 100000
set_option maxHeartbeats 8000000
namespace Go.Proofs.YtccljifichaieaaDoor.Sl
open Go Go.RowKit
def Kn:Nat:=15485907386658061715
def Kin:Nat:=14982988110149298331
def rotN (h:Nat):Nat:=h * 8192 % 2 ^ 64+h / 2 ^ 51
def stpN (h c:Nat):Nat:=(rotN h ^^^ c) * Kn % 2 ^ 64
theorem stpN_lt (h c:Nat):stpN h c<2 ^ 64:=Nat.mod_lt _ (by decide)
theorem rotN_lt (h:Nat) (hh:h<2 ^ 64):rotN h<2 ^ 64:=by unfold rotN;omega
theorem rot_inj {a b:Nat} (ha:a<2 ^ 64) (hb:b<2 ^ 64) (h:rotN a=rotN b):a=b:=by
 unfold rotN at h
 have e:∀ x,x * 8192 % 2 ^ 64=x % 2 ^ 51 * 8192:=fun x=>by omega
 rw [e,e] at h
 have h1:a / 2 ^ 51<8192:=by omega
 have h2:b / 2 ^ 51<8192:=by omega
 have:=Nat.div_add_mod a (2 ^ 51)
 have:=Nat.div_add_mod b (2 ^ 51)
 generalize a % 2 ^ 51=x at *
 generalize b % 2 ^ 51=y at *
 generalize a / 2 ^ 51=p at *
 generalize b / 2 ^ 51=q at *
 obtain rfl:p=q:=by omega
 obtain rfl:x=y:=by omega
 omega
theorem mul_inj {a b:Nat} (ha:a<2 ^ 64) (hb:b<2 ^ 64) (h:a * Kn % 2 ^ 64=b * Kn % 2 ^ 64):a=b:=by
 have e:∀ x,x<2 ^ 64→x * Kn % 2 ^ 64 * Kin % 2 ^ 64=x:=fun x hx=>by
  rw [Nat.mod_mul_mod,Nat.mul_assoc,Nat.mul_mod,show Kn * Kin % 2 ^ 64=1 by decide,Nat.mul_one,Nat.mod_mod,Nat.mod_eq_of_lt hx]
 rw [← e a ha,← e b hb,h]
theorem xlt {a b:Nat} (ha:a<2 ^ 64) (hb:b<2 ^ 64):a ^^^ b<2 ^ 64:=Nat.xor_lt_two_pow (n:=64) ha hb
theorem xor_c {a b c:Nat} (h:a ^^^ b=a ^^^ c):b=c:=by
 have:=congrArg (a ^^^ ·) h
 simpa [← Nat.xor_assoc] using this
theorem xor_h {a b c:Nat} (h:a ^^^ c=b ^^^ c):a=b:=by
 rw [Nat.xor_comm a,Nat.xor_comm b] at h;exact xor_c h
theorem stp_h {g h c:Nat} (hg:g<2 ^ 64) (hh:h<2 ^ 64) (hc:c<2 ^ 64) (e:stpN g c=stpN h c):g=h :=
 rot_inj hg hh (xor_h (mul_inj (xlt (rotN_lt g hg) hc) (xlt (rotN_lt h hh) hc) e))
theorem lt64 {x:Nat} (h:x<256):x<2 ^ 64:=Nat.lt_trans h (by decide)
/-- The steps of a part's bytes. -/
def byN (h:Nat) (l:List Nat):Nat:=l.foldl stpN h
def partN (h:Nat) (l:List Nat):Nat:=stpN (byN h l) (256+l.length)
def tagN (h:Nat) (ps:List (List Nat)):Nat:=ps.foldl partN h
theorem byN_lt (l:List Nat) (h:Nat) (hh:h<2 ^ 64):byN h l<2 ^ 64:=by
 induction l generalizing h with
 | nil=>exact hh
 | cons c l ih=>exact ih _ (stpN_lt _ _)
theorem partN_lt (h:Nat) (l:List Nat):partN h l<2 ^ 64:=stpN_lt _ _
theorem tagN_lt (ps:List (List Nat)) (h:Nat) (hh:h<2 ^ 64):tagN h ps<2 ^ 64:=by
 induction ps generalizing h with
 | nil=>exact hh
 | cons c l ih=>exact ih _ (partN_lt _ _)
theorem byN_snoc (h:Nat) (l:List Nat) (c:Nat):byN h (l ++ [c])=stpN (byN h l) c:=by unfold byN;rw [List.foldl_append,List.foldl_cons,List.foldl_nil]
theorem byN_h (l:List Nat) {g h:Nat} (hl:∀ c ∈ l,c<256) (hg:g<2 ^ 64) (hh:h<2 ^ 64) (e:byN g l=byN h l):g=h:=by
 induction l generalizing g h with
 | nil=>exact e
 | cons c l ih =>
   have:=ih (fun x hx=>hl x (by simp [hx])) (stpN_lt g c) (stpN_lt h c) e
   exact stp_h hg hh (lt64 (hl c (by simp))) this
theorem partN_h (l:List Nat) {g h:Nat} (hl:∀ c ∈ l,c<256) (hn:l.length<2 ^ 63) (hg:g<2 ^ 64) (hh:h<2 ^ 64) (e:partN g l=partN h l):g=h :=
 byN_h l hl hg hh (stp_h (byN_lt l g hg) (byN_lt l h hh) (by omega) e)
theorem ret_u64 {a b:Int} (h:a=b):Ending.returned (.int .u64 a)=.returned (.int .u64 b):=by rw [h]
theorem wrap_u64' (n:Int):IntKind.u64.wrap n=n % 2 ^ 64:=by simp [IntKind.wrap,IntKind.bits,IntKind.signed]
theorem rot_form (h:Nat) (hh:h<2 ^ 64):bits .or .u64 (IntKind.u64.wrap ((h:Int) * 8192)) ((h:Int) / 2251799813685248)=(rotN h:Int):=by
 have e1:IntKind.u64.wrap ((h:Int) * 8192)=((h * 8192 % 2 ^ 64:Nat):Int):=by rw [wrap_u64'];omega
 have e2:(h:Int) / 2251799813685248=((h / 2 ^ 51:Nat):Int):=by omega
 rw [e1,e2,u64_or_nat _ _ (by omega) (by omega),nat_join 13 _ _ (by omega) (by omega)]
 rfl
theorem rot_any (h:Nat) (w:World) (hh:h<2 ^ 64) :
  Calls Tryd.prog 84 #[.int .u64 (h:Int),.int .i64 13] w fun e w'=>e=.returned (.int .u64 (rotN h:Int))∧w=w':=by
 have hb:bits .and .u64 13 63=13:=by decide
 go_enter Tryd.func84,Tryd.ntmps84
 go_wp2
 go_ret
 exact ⟨ret_u64 (rot_form h hh),rfl⟩
theorem stp_form (h c:Nat) (hh:h<2 ^ 64) (hc:c<2 ^ 64):IntKind.u64.wrap (bits .xor .u64 (rotN h:Int) (c:Int) * 15485907386658061715)=(stpN h c:Int):=by
 rw [u64_xor_nat _ _ (rotN_lt h hh) hc,wrap_u64']
 unfold stpN Kn
 generalize rotN h ^^^ c=x
 omega
theorem step_any (h c:Nat) (w:World) (hh:h<2 ^ 64) (hc:c<2 ^ 64) :
  Calls Tryd.prog 69 #[.int .u64 (h:Int),.int .u64 (c:Int)] w fun e w'=>e=.returned (.int .u64 (stpN h c:Int))∧w=w':=by
 have F:=Lib.hid (stp_form h c hh hc)
 have R:=Lib.hid (rot_any h w hh)
 clear hh hc
 go_enter Tryd.func69,Tryd.ntmps69
 go_wp2_with fail
 refine R.out.mono ?_;rintro e w' ⟨rfl,rfl⟩
 go_wp2
 go_ret
 exact ⟨ret_u64 F.out,rfl⟩
theorem rstp_form (h:Nat) (hh:h<2 ^ 64):IntKind.u64.wrap (IntKind.u64.wrap ((h:Int) * 8192)+(h:Int) / 2251799813685248)=(rotN h:Int):=by
 rw [wrap_u64',wrap_u64']
 unfold rotN
 omega
theorem rstep_any (h c:Nat) (w:World) (hh:h<2 ^ 64) (hc:c<2 ^ 64) :
  Calls Tryd.prog 32 #[.int .u64 (h:Int),.int .u64 (c:Int)] w fun e w'=>e=.returned (.int .u64 (stpN h c:Int))∧w=w':=by
 have F:=Lib.hid (stp_form h c hh hc)
 have G:=Lib.hid (rstp_form h hh)
 go_enter Tryd.func32,Tryd.ntmps32
 go_wp2
 go_ret
 exact ⟨ret_u64 (by rw [G.out];exact F.out),rfl⟩
/-- num as a number without a sign. -/
def unN (n:Int):Nat:=(n % 2 ^ 64).toNat
theorem unN_lt (n:Int):unN n<2 ^ 64:=by unfold unN;omega
theorem unN_wrap (n:Int):IntKind.u64.wrap n=(unN n:Int):=by rw [wrap_u64'];unfold unN;omega
theorem numbered_any (h:Nat) (n:Int) (w:World) (hh:h<2 ^ 64) :
  Calls Tryd.prog 50 #[.int .u64 (h:Int),.int .i64 n] w fun e w'=>e=.returned (.int .u64 (stpN h (unN n):Int))∧w=w':=by
 have S:=step_any h (unN n) w hh (unN_lt n)
 rw [← unN_wrap] at S
 have S:=Lib.hid S
 clear hh
 go_enter Tryd.func50,Tryd.ntmps50
 go_wp2_with fail
 refine S.out.mono ?_;rintro e w' ⟨rfl,rfl⟩
 go_wp2
 go_ret
 exact ⟨rfl,rfl⟩
/-- A value that reads as these bytes. -/
def IsPart (w:World) (B:Nat) (v:Value) (l:List Nat):Prop :=
 ∃ A c,v=.slice A l.length c∧Rd w B A l.length (bv l)∧l.length≤c∧l.length≤140737488355328∧∀ c ∈ l,c<256
theorem IsPart.below {w w':World} {B B':Nat} {v:Value} {l:List Nat} (h:IsPart w B v l) (hb:Below B' w w') (hB:B≤B'):IsPart w' B v l:=by
 obtain ⟨A,c,h1,h2,h3⟩:=h
 exact ⟨A,c,h1,h2.below hb hB,h3⟩
theorem IsPart.more {w:World} {B B':Nat} {v:Value} {l:List Nat} (h:IsPart w B v l) (hB:B≤B'):IsPart w B' v l:=by
 obtain ⟨A,c,h1,h2,h3⟩:=h
 exact ⟨A,c,h1,h2.more hB,h3⟩
/-- A row of them. -/
def Parts (w:World) (B:Nat) (A:Option Addr) (ps:List (List Nat)):Prop :=
 ∃ vs,Rd w B A ps.length vs∧∀ j,j<ps.length→∃ v,vs[j]?=some v∧IsPart w B v (ps.getD j [])
theorem Parts.below {w w':World} {B B':Nat} {A:Option Addr} {ps:List (List Nat)} (h:Parts w B A ps) (hb:Below B' w w') (hB:B≤B'):Parts w' B A ps:=by
 obtain ⟨vs,h1,h2⟩:=h
 refine ⟨vs,h1.below hb hB,fun j hj=>?_⟩
 obtain ⟨v,h3,h4⟩:=h2 j hj
 exact ⟨v,h3,h4.below hb hB⟩
theorem tagN_snoc (h:Nat) (ps:List (List Nat)) (p:List Nat):tagN h (ps ++ [p])=partN (tagN h ps) p:=by unfold tagN;rw [List.foldl_append,List.foldl_cons,List.foldl_nil]
theorem takeD_snoc {α:Type} (l:List α) (k:Nat) (d:α) (h:k<l.length):l.take (k+1)=l.take k ++ [l.getD k d]:=by
 rw [List.take_succ_eq_append_getElem h]
 simp [List.getD,h]
theorem tag_any (key:Nat) (ps:List (List Nat)) (B:Nat) (A:Option Addr) (cap:Nat) (w:World) (hk:key<2 ^ 64) (hp:Parts w B A ps) (hn:ps.length≤cap) (hm:ps.length≤140737488355328) :
  Calls Tryd.prog 49 #[.int .u64 (key:Int),.slice A ps.length cap] w fun e w'=>e=.returned (.int .u64 (tagN key ps:Int))∧w=w':=by
 have HP:=Lib.hid hp
 have HK:=Lib.hid hk
 clear hp hk
 go_enter Tryd.func49,Tryd.ntmps49
 go_wp2
 go_loop [5,13] (fun v i=>∃ k:Nat,k≤ps.length∧i=.int .i64 k∧v=.int .u64 (tagN key (ps.take k):Int)) (fun _ i=>ps.length - (intOf i).toNat)
 case atStart=>exact ⟨0,Nat.zero_le _,rfl,rfl⟩
 case round =>
  obtain ⟨k,hk,rfl,rfl⟩:=hrel
  by_cases hlt:k<ps.length
  ·have hlti:(k:Int)<(ps.length:Int):=by omega
   obtain ⟨vs,hrd,hvs⟩:=HP.out
   obtain ⟨b,off,hA,hbn,hcs⟩:=hrd.2 (by omega)
   obtain ⟨v,hv,Ap,cp,rfl,hrp,hcp,hmp,hbp⟩:=hvs k hlt
   have hcell:w.cell? ⟨b,off+k,none⟩=some (.slice Ap (ps.getD k []).length cp):=hcs k _ hv
   have HT:=Lib.hid (takeD_snoc ps k [] hlt)
   obtain ⟨l,hl⟩:∃ l,Hid (ps.getD k []=l):=⟨_,rfl⟩
   have HS:Hid (tagN key (ps.take (k+1))=partN (tagN key (ps.take k)) l):=by show _=_;rw [HT.out,tagN_snoc,hl.out]
   have hh:=tagN_lt (ps.take k) key HK.out
   obtain ⟨h0,hh0⟩:∃ h,Hid (tagN key (ps.take k)=h):=⟨_,rfl⟩
   rw [hl.out] at hrp hcp hmp hbp hcell
   rw [hh0.out] at HS hh ⊢
   have HB:=Lib.hid hbp
   have HR:=Lib.hid hrp
   have HH:=Lib.hid hh
   subst hA
   clear hcs hvs hrd hbp hrp hv hh
   have hlc:(l.length:Int)≤140737488355328:=by omega
   go_wp2
   go_loop [5,19] (fun v i=>∃ j:Nat,j≤l.length∧i=.int .i64 j∧v=.int .u64 (byN h0 (l.take j):Int)) (fun _ i=>l.length - (intOf i).toNat)
   case atStart=>exact ⟨0,Nat.zero_le _,rfl,rfl⟩
   case round =>
    obtain ⟨j,hj,rfl,rfl⟩:=hrel
    have hh:=byN_lt (l.take j) h0 HH.out
    by_cases hltj:j<l.length
    ·have hltji:(j:Int)<(l.length:Int):=by omega
     obtain ⟨b2,off2,hA2,hbn2,hcs2⟩:=HR.out.2 (by omega)
     have hcell2:w.cell? ⟨b2,off2+j,none⟩=some (.int .u8 ((l.getD j 0:Nat):Int)):=hcs2 j _ (bv_get l j hltj)
     have hx:=getD_lt HB.out j
     have HS2:Hid (byN h0 (l.take (j+1))=stpN (byN h0 (l.take j)) (l.getD j 0)):=by show _=_;rw [take_snoc l j hltj,byN_snoc]
     obtain ⟨x,hxx⟩:∃ x,Hid (l.getD j 0=x):=⟨_,rfl⟩
     obtain ⟨h1,hh1⟩:∃ h,Hid (byN h0 (l.take j)=h):=⟨_,rfl⟩
     rw [hxx.out] at hcell2 hx HS2
     rw [hh1.out] at hh HS2 ⊢
     have ST:=Lib.hid (step_any h1 x w hh (lt64 hx))
     subst hA2
     clear hcs2 hh
     go_wp2_with fail
     refine ST.out.mono ?_;rintro e w' ⟨rfl,rfl⟩
     go_wp2
     go_round
     case rel=>exact ⟨j+1,by omega,by go_num,by rw [HS2.out]⟩
     case measure=>simp [intOf];omega
    ·obtain rfl:j=l.length:=by omega
     have e:l.take l.length=l:=List.take_length
     rw [e] at hh ⊢
     clear e
     obtain ⟨h1,hh1⟩:∃ h,Hid (byN h0 l=h):=⟨_,rfl⟩
     have ST:=step_any h1 (256+l.length) w (by rw [← hh1.out];exact hh) (by omega)
     rw [show ((256+l.length:Nat):Int)=256+(l.length:Int) by omega] at ST
     have ST:=Lib.hid ST
     have HS3:Hid (stpN h1 (256+l.length)=tagN key (ps.take (k+1))):=by show _=_;rw [HS.out];unfold partN;rw [hh1.out]
     rw [hh1.out]
     clear hh
     go_wp2_with fail
     refine ST.out.mono ?_;rintro e w' ⟨rfl,rfl⟩
     go_wp2
     go_round
     case rel=>exact ⟨k+1,by omega,by go_num,by rw [← HS3.out]⟩
     case measure=>simp [intOf];omega
  ·obtain rfl:k=ps.length:=by omega
   have e:ps.take ps.length=ps:=List.take_length
   rw [e]
   clear e
   go_wp2
   go_ret
   exact ⟨rfl,rfl⟩
/-- Eight bytes, and less, as a number, the highest first. -/
def readN (l:List Nat):Nat:=l.foldl (fun t c=>t * 256 % 2 ^ 64+c) 0
theorem readN_snoc (l:List Nat) (c:Nat):readN (l ++ [c])=readN l * 256 % 2 ^ 64+c:=by unfold readN;rw [List.foldl_append,List.foldl_cons,List.foldl_nil]
theorem readN_lt (l:List Nat) (h:∀ c ∈ l,c<256):readN l<2 ^ 64:=by
 rcases List.eq_nil_or_concat l with rfl | ⟨l',c,rfl⟩
 ·decide
 ·rw [List.concat_eq_append,readN_snoc]
  have:=h c (by simp)
  omega
theorem read_form (t c:Nat) (ht:t<2 ^ 64) (hc:c<256):bits .or .u64 (IntKind.u64.wrap ((t:Int) * 256)) (c:Int)=((t * 256 % 2 ^ 64+c:Nat):Int):=by
 have e1:IntKind.u64.wrap ((t:Int) * 256)=((t * 256 % 2 ^ 64:Nat):Int):=by rw [wrap_u64'];omega
 rw [e1,u64_or_nat _ _ (by omega) (lt64 hc),nat_join 8 _ _ (by omega) (by omega)]
theorem read_any (l:List Nat) (B:Nat) (A:Option Addr) (cap:Nat) (w:World) (hx:Rd w B A l.length (bv l)) (hb:∀ c ∈ l,c<256) (hn:l.length≤cap) (hm:l.length≤140737488355328) :
  Calls Tryd.prog 54 #[.slice A l.length cap] w fun e w'=>e=.returned (.int .u64 (readN l:Int))∧w=w':=by
 have HX:=Lib.hid hx
 have HB:=Lib.hid hb
 clear hx hb
 go_enter Tryd.func54,Tryd.ntmps54
 go_wp2
 go_loop [3,8] (fun v i=>∃ k:Nat,k≤l.length∧i=.int .i64 k∧v=.int .u64 (readN (l.take k):Int)) (fun _ i=>l.length - (intOf i).toNat)
 case atStart=>exact ⟨0,Nat.zero_le _,rfl,rfl⟩
 case round =>
  obtain ⟨k,hk,rfl,rfl⟩:=hrel
  by_cases hlt:k<l.length
  ·have hlti:(k:Int)<(l.length:Int):=by omega
   obtain ⟨b,off,hA,hbn,hcs⟩:=HX.out.2 (by omega)
   have hcell:w.cell? ⟨b,off+k,none⟩=some (.int .u8 ((l.getD k 0:Nat):Int)):=hcs k _ (bv_get l k hlt)
   have hx:=getD_lt HB.out k
   have hS:Hid (readN (l.take (k+1))=readN (l.take k) * 256 % 2 ^ 64+l.getD k 0):=by show _=_;rw [take_snoc l k hlt,readN_snoc]
   have ht:=readN_lt (l.take k) (fun c hc=>HB.out c (List.mem_of_mem_take hc))
   obtain ⟨x,hxx⟩:∃ x,Hid (l.getD k 0=x):=⟨_,rfl⟩
   obtain ⟨t,htt⟩:∃ t,Hid (readN (l.take k)=t):=⟨_,rfl⟩
   rw [hxx.out] at hcell hx hS
   rw [htt.out] at ht hS ⊢
   have HF:=Lib.hid (read_form t x ht hx)
   subst hA
   clear hcs ht
   go_wp2
   go_round
   case rel=>exact ⟨k+1,by omega,by go_num,by rw [HF.out,hS.out]⟩
   case measure=>simp [intOf];omega
  ·obtain rfl:k=l.length:=by omega
   have e:l.take l.length=l:=List.take_length
   rw [e]
   clear e
   go_wp2
   go_ret
   exact ⟨rfl,rfl⟩
/-- Byte i of a mask. -/
def mb (h i c:Nat):Nat:=c ^^^ (stpN h i / 2 ^ 32 % 256)
def maskN (h:Nat) (l:List Nat):List Nat:=l.mapIdx fun i c=>mb h i c
theorem mb_lt {h i c:Nat} (hc:c<256):mb h i c<256:=Nat.xor_lt_two_pow (n:=8) hc (Nat.mod_lt _ (by decide))
theorem maskN_len (h:Nat) (l:List Nat):(maskN h l).length=l.length:=by simp [maskN]
theorem maskN_get (h:Nat) (l:List Nat) (k:Nat) (hk:k<l.length):(maskN h l).getD k 0=mb h k (l.getD k 0):=by simp [maskN,List.getD,hk]
theorem maskN_lt (h:Nat) (l:List Nat) (hl:∀ c ∈ l,c<256):∀ c ∈ maskN h l,c<256:=fun c hc=>by
 obtain ⟨k,hk,rfl⟩:=List.mem_iff_getElem.1 hc
 rw [maskN_len] at hk
 have:=maskN_get h l k hk
 simp only [List.getD,List.getElem?_eq_getElem (show k<(maskN h l).length by rw [maskN_len];exact hk),Option.getD_some] at this
 rw [this]
 exact mb_lt (getD_lt hl k)
theorem mask_twice (h:Nat) (l:List Nat):maskN h (maskN h l)=l:=by
 refine List.ext_getElem (by rw [maskN_len,maskN_len]) fun k h1 h2=>?_
 simp [maskN,mb,Nat.xor_assoc]
theorem mask_form (t x:Nat) (hx:x<256) (ht:t<2 ^ 64):bits .xor .u8 (x:Int) ((t:Int) / 4294967296 % 256)=((x ^^^ (t / 2 ^ 32 % 256):Nat):Int):=by
 have e1:(t:Int) / 4294967296 % 256=((t / 2 ^ 32 % 256:Nat):Int):=by omega
 rw [e1,u8_xor_nat _ _ hx (by omega)]
/-- What a mask's row holds once k bytes are laid. -/
def laidN (h:Nat) (l:List Nat) (k:Nat):List Nat:=(maskN h l).take k ++ List.replicate (l.length - k) 0
theorem laidN_len (h:Nat) (l:List Nat) (k:Nat) (hk:k≤l.length):(laidN h l k).length=l.length:=by
 simp [laidN,maskN_len];omega
theorem laidN_all (h:Nat) (l:List Nat):laidN h l l.length=maskN h l:=by
 simp only [laidN,Nat.sub_self,List.replicate_zero,List.append_nil]
 exact List.take_of_length_le (by rw [maskN_len];exact Nat.le_refl _)
theorem laidN_set (h:Nat) (l:List Nat) (k:Nat) (hk:k<l.length):(laidN h l k).set k (mb h k (l.getD k 0))=laidN h l (k+1):=by
 have e1:((maskN h l).take k).length=k:=by rw [List.length_take,maskN_len];omega
 unfold laidN
 rw [List.set_append_right _ _ (by omega),e1,Nat.sub_self,takeD_snoc (maskN h l) k 0 (by rw [maskN_len];exact hk),maskN_get h l k hk,
  show l.length - k=(l.length - (k+1))+1 by omega,List.replicate_succ,List.set_cons_zero,List.append_assoc]
 rfl
theorem made_zero (n:Nat):(madeCells #[Value.int .u8 0] n).toList=bv (List.replicate n 0):=by
 refine List.ext_getElem (by simp [madeCells,bv]) fun k h1 h2=>?_
 simp [madeCells,bv,Nat.mod_one]
theorem mask_any (key:Nat) (num:Int) (l:List Nat) (B:Nat) (A:Option Addr) (cap:Nat) (w:World) (hk:key<2 ^ 64) (hx:Rd w B A l.length (bv l)) (hB:B≤w.heap.size) (hb:∀ c ∈ l,c<256) (hn:l.length≤cap) (hm:l.length≤140737488355328) :
  Calls Tryd.prog 47 #[.int .u64 (key:Int),.int .i64 num,.slice A l.length cap] w fun e w'=>∃ v',e=.returned v'∧w'.ownsRow w.heap.size 5 1 v' l.length (bv (maskN (stpN key (unN num)) l))∧Below w.heap.size w w':=by
 have HX:=Lib.hid hx
 have HB:=Lib.hid hb
 have HBw:=Lib.hid hB
 have N:=Lib.hid (numbered_any key num w hk)
 have hh:=stpN_lt key (unN num)
 obtain ⟨h,hhh⟩:∃ h,Hid (stpN key (unN num)=h):=⟨_,rfl⟩
 rw [hhh.out] at hh N ⊢
 obtain ⟨i0,hi,hz0,hz1,hz2⟩:=info_parts infoB
 have HI:=Lib.hid (And.intro hi (And.intro hz0 (And.intro hz1 hz2)))
 have HM:Hid (i0.bytes * l.length≤281474976710656):=by show _≤_;rw [hz2];omega
 have HM2:Hid (l.length≤maxLen):=by show _≤_;unfold maxLen;omega
 have hlm:(l.length:Int)≤140737488355328:=by omega
 clear hx hb hk hi hz0 hz1 hz2 hB
 go_enter Tryd.func47,Tryd.ntmps47
 go_wp2_with fail
 refine N.out.mono ?_;rintro e w' ⟨rfl,rfl⟩
 go_wp2_with (refine wpList_make_full _ rfl _ _ 24 rfl w.heap.size 5 i0 (.int .u8 0) 1 Tryd.underlying24 HI.out.1 HI.out.2.1 HI.out.2.2.1 .i64 .i64 (l.length:Int) (l.length:Int) l.length rfl rfl rfl rfl HM.out HM2.out (Nat.le_refl _) ?_)
 intro w1 hown hgrow
 rw [made_zero] at hown
 obtain ⟨g,hg⟩:∃ g,Hid (w.heap.size=g):=⟨_,rfl⟩
 have HS:Hid (w1.ownsRow w.heap.size 5 1 (.slice (some ⟨g,0,none⟩) l.length l.length) l.length (bv (laidN h l 0))∧Below w.heap.size w w1):=by
  refine ⟨?_,(Below.refl _ _).grown hgrow (Nat.le_refl _) (fun j hj=>by cases hj)⟩
  rw [← hg.out]
  simpa [laidN] using hown
 clear hown hgrow
 have hgw:g<w1.heap.size:=by
  rcases HS.out.1.2 with ⟨h',_⟩ | ⟨g',cap',cur,h',_,hh,_⟩
  ·cases h'
  ·simp only [Value.slice.injEq,Option.some.injEq,Addr.mk.injEq,and_true] at h'
   obtain ⟨⟨rfl,_⟩,_⟩:=h'
   exact (Array.getElem?_eq_some_iff.1 hh).1
 rw [hg.out]
 go_wp2
 go_loopw [19] (fun i wr=>∃ k:Nat,k≤l.length∧i=.int .i64 k∧Hid (wr.ownsRow w.heap.size 5 1 (.slice (some ⟨g,0,none⟩) l.length l.length) l.length (bv (laidN h l k))∧Below w.heap.size w wr)) (fun i _=>l.length - (intOf i).toNat)
 case atStart=>exact ⟨0,Nat.zero_le _,rfl,HS⟩
 case round =>
  obtain ⟨k,hk,rfl,HK⟩:=hrel
  by_cases hlt:k<l.length
  ·have hlti:(k:Int)<(l.length:Int):=by omega
   obtain ⟨b,off,hA,hbn,hcs⟩:=HX.out.2 (by omega)
   have hcell:wr.cell? ⟨b,off+k,none⟩=some (.int .u8 ((l.getD k 0:Nat):Int)):=by
    rw [HK.out.2.cell (p:=⟨b,off+k,none⟩) (Nat.lt_of_lt_of_le hbn HBw.out)]
    exact hcs k _ (bv_get l k hlt)
   have hx:=getD_lt HB.out k
   have hc2:∃ u,wr.cell? ⟨g,k,none⟩=some u:=by
    rw [HK.out.1.cellAt k (by omega)]
    exact ⟨_,bv_get _ k (by rw [laidN_len _ _ _ hk];exact hlt)⟩
   obtain ⟨u,hcu⟩:=hc2
   have hfz:=HK.out.1.frozenAt k
   have ST:=Lib.hid (step_any h k wr hh (by omega))
   have hst:=stpN_lt h k
   have HNX:Hid ((wr.setCell ⟨g,k,none⟩ (.int .u8 ((mb h k (l.getD k 0):Nat):Int))).ownsRow w.heap.size 5 1 (.slice (some ⟨g,0,none⟩) l.length l.length) l.length (bv (laidN h l (k+1)))∧Below w.heap.size w (wr.setCell ⟨g,k,none⟩ (.int .u8 ((mb h k (l.getD k 0):Nat):Int)))):=by
    refine ⟨?_,HK.out.2.setCell (by rw [hg.out];exact Nat.le_refl _) _⟩
    have:=(HK.out.1.stored k (.int .u8 ((mb h k (l.getD k 0):Nat):Int))).1
    rw [← laidN_set h l k hlt]
    simpa [bv,List.map_set] using this
   obtain ⟨x,hxx⟩:∃ x,Hid (l.getD k 0=x):=⟨_,rfl⟩
   obtain ⟨t,htt⟩:∃ t,Hid (stpN h k=t):=⟨_,rfl⟩
   have HF:=mask_form t x (by rw [← hxx.out];exact hx) (by rw [← htt.out];exact hst)
   have HMB:Hid (mb h k x=x ^^^ (t / 2 ^ 32 % 256)):=by show _=_;rw [← htt.out];rfl
   rw [← HMB.out] at HF
   have HF:=Lib.hid HF
   rw [hxx.out] at hcell hx HNX
   rw [htt.out] at ST
   subst hA
   clear hcs hst HMB
   go_wp2_with fail
   refine ST.out.mono ?_;rintro e w' ⟨rfl,rfl⟩
   go_wp2
   go_roundw
   case rel=>exact ⟨k+1,by omega,by go_num,by first | exact HNX | (rw [HF.out];exact HNX)⟩
   case measure=>simp [intOf];omega
  ·obtain rfl:k=l.length:=by omega
   rw [laidN_all] at HK
   go_wp2
   go_ret
   exact ⟨_,rfl,HK.out⟩
/-- A number's eight bytes, the highest first. -/
def eightN (t:Nat):List Nat:=[t / 2 ^ 56 % 256,t / 2 ^ 48 % 256,t / 2 ^ 40 % 256,t / 2 ^ 32 % 256,t / 2 ^ 24 % 256,t / 2 ^ 16 % 256,t / 2 ^ 8 % 256,t % 256]
theorem eightN_lt (t:Nat):∀ c ∈ eightN t,c<256:=fun c hc=>by
 simp only [eightN,List.mem_cons,List.not_mem_nil,or_false] at hc
 rcases hc with rfl | rfl | rfl | rfl | rfl | rfl | rfl | rfl <;> exact Nat.mod_lt _ (by decide)
theorem dig8 (m k:Nat):m / 2 ^ (k+8) * 256+m / 2 ^ k % 256=m / 2 ^ k:=by
 rw [Nat.pow_add,← Nat.div_div_eq_div_mul]
 exact Nat.div_add_mod' _ _
theorem digm (t k:Nat) (ht:t<2 ^ 64):t / 2 ^ (k+8) * 256 % 2 ^ 64+t / 2 ^ k % 256=t / 2 ^ k:=by
 have h1:t / 2 ^ (k+8)≤t / 2 ^ 8:=Nat.div_le_div_left (Nat.pow_le_pow_right (by decide) (by omega)) (Nat.two_pow_pos 8)
 rw [Nat.mod_eq_of_lt (by omega)]
 exact dig8 t k
theorem readN_eight (t:Nat) (ht:t<2 ^ 64):readN (eightN t)=t:=by
 have h0:0 * 256 % 2 ^ 64+t / 2 ^ 56 % 256=t / 2 ^ 56:=by omega
 simp only [readN,eightN,List.foldl_cons,List.foldl_nil]
 rw [h0,digm t 48 ht,digm t 40 ht,digm t 32 ht,digm t 24 ht,digm t 16 ht,digm t 8 ht]
 have:=digm t 0 ht
 simpa using this
theorem len8 (l:List Nat) (h:l.length=8):∃ a b c d e f g i,l=[a,b,c,d,e,f,g,i]:=by
 match l,h with
 | [a,b,c,d,e,f,g,i],_=>exact ⟨a,b,c,d,e,f,g,i,rfl⟩
theorem read_inj (x y:List Nat) (hx:x.length=8) (hy:y.length=8) (bx:∀ c ∈ x,c<256) (bY:∀ c ∈ y,c<256) (h:readN x=readN y):x=y:=by
 obtain ⟨a1,a2,a3,a4,a5,a6,a7,a8,rfl⟩:=len8 x hx
 obtain ⟨b1,b2,b3,b4,b5,b6,b7,b8,rfl⟩:=len8 y hy
 simp only [List.mem_cons,List.not_mem_nil,or_false,forall_eq_or_imp,forall_eq] at bx bY
 simp only [readN,List.foldl_cons,List.foldl_nil] at h
 rw [Nat.mod_eq_of_lt (a:=0 * 256) (by omega)] at h
 obtain ⟨p1,p2,p3,p4,p5,p6,p7,p8⟩:=bx
 obtain ⟨q1,q2,q3,q4,q5,q6,q7,q8⟩:=bY
 have e8:a8=b8:=by omega
 subst e8
 have e7:a7=b7:=by omega
 subst e7
 have e6:a6=b6:=by omega
 subst e6
 have e5:a5=b5:=by omega
 subst e5
 have e4:a4=b4:=by omega
 subst e4
 have e3:a3=b3:=by omega
 subst e3
 have e2:a2=b2:=by omega
 subst e2
 have e1:a1=b1:=by omega
 subst e1
 rfl
theorem eightN_get (t:Nat):∀ k,k<8→(eightN t).getD k 0=t / 2 ^ (8 * (7 - k)) % 256
 | 0,_=>rfl | 1,_=>rfl | 2,_=>rfl | 3,_=>rfl | 4,_=>rfl | 5,_=>rfl | 6,_=>rfl
 | 7,_=>by simp [eightN]
 | k+8,h=>by omega
theorem lay_any (v:Value) (n:Nat) (l:List Nat) (t:Nat) (base:Nat) (w:World) (hown:w.ownsRow base 5 1 v n (bv l)) (hbase:base≤w.heap.size) (ht:t<2 ^ 64) (hn:n≤140737488355320) :
  Calls Tryd.prog 48 #[v,.int .u64 (t:Int)] w fun e w'=>∃ v',e=.returned v'∧w'.ownsRow base 5 1 v' (n+8) (bv (l ++ eightN t))∧Below base w w':=by
 obtain ⟨A,c,rfl,hnc,hcm,_,_⟩:=own_form hown
 have HO:=Lib.hid hown
 have HB:=Lib.hid hbase
 obtain ⟨i0,hi,hz0,hz1,hz2⟩:=info_parts infoB
 have HI:=Lib.hid (And.intro hi (And.intro hz0 (And.intro hz1 hz2)))
 clear hi hz0 hz1 hz2 hown hbase hcm hnc
 go_enter Tryd.func48,Tryd.ntmps48
 go_wp2
 go_loopw [0,5] (fun v i wr=>∃ k:Nat,k≤8∧i=.int .i64 (7 - (k:Int))∧Hid (wr.ownsRow base 5 1 v (n+k) (bv (l ++ (eightN t).take k))∧Below base w wr)) (fun _ i _=>(intOf i+1).toNat)
 case atStart=>exact ⟨0,by omega,rfl,by simpa using HO.out,Below.refl _ _⟩
 case round =>
  obtain ⟨k,hk,rfl,HK⟩:=hrel
  by_cases hlt:k<8
  ·have hG:=Lib.hid (eightN_get t k hlt)
   have hT:=Lib.hid (takeD_snoc (eightN t) k 0 hlt)
   have hcase:k=0∨k=1∨k=2∨k=3∨k=4∨k=5∨k=6∨k=7:=by omega
   clear hk hlt
   rcases hcase with rfl | rfl | rfl | rfl | rfl | rfl | rfl | rfl
   ·have hF:Hid ((t:Int) / 72057594037927936=(((eightN t).getD 0 0:Nat):Int)):=by show _=_;rw [hG.out];omega
    obtain ⟨Ak,ck,ek,_,_,_,_⟩:=own_form HK.out.1
    subst ek
    have hbk:Hid (base≤wr.heap.size):=Nat.le_trans HB.out HK.out.2.size
    have hbk2:Hid (base≤(wr.alloc (.cells #[.int .u8 ((t:Int) / 72057594037927936)] 5)).heap.size):=by show _≤_;simp only [World.size_alloc];exact Nat.le_trans hbk.out (by omega)
    go_wp2_with (at_builtin;refine wpList_app _ rfl (.tmp 10) (.tmp 16) 24 rfl base 5 i0 (.int .u8 0) 1 1 Tryd.underlying24 HI.out.1 HI.out.2.1 HI.out.2.2.1 HI.out.2.2.2 rfl (by decide) (.slice Ak (n+0) ck) (n+0) (bv (l ++ (eightN t).take 0)) rfl (HK.out.1.alloc _) (wr.heap.size+1) (some ⟨wr.heap.size,0,none⟩) 1 1 [.int .u8 ((t:Int) / 72057594037927936)] rfl (rd_new _ _ _ _ _ _ _ rfl (by omega) rfl rfl) (by simp [ones,Value.oneCell']) (by unfold maxLen;omega) (by omega) hbk2.out ?_)
    intro v1 w1 hown1 hgrow1
    have HN:Hid (w1.ownsRow base 5 1 v1 (n+1) (bv (l ++ (eightN t).take 1))∧Below base w w1):=by
     refine ⟨?_,(HK.out.2.alloc hbk.out _).grown hgrow1 hbk2.out (fun g hg=>(HK.out.1.lt g hg).1)⟩
     rw [hT.out,← List.append_assoc,bv_app,show bv [(eightN t).getD 0 0]=[.int .u8 ((t:Int) / 72057594037927936)] by rw [hF.out];rfl]
     first | exact hown1 | (rw [List.take_zero,List.append_nil];exact hown1)
    clear hown1 hgrow1
    go_wp2
    go_roundw
    case rel=>exact ⟨1,by omega,by go_num,HN⟩
    case measure=>simp [intOf]
   ·have hF:Hid ((t:Int) / 281474976710656 % 256=(((eightN t).getD 1 0:Nat):Int)):=by show _=_;rw [hG.out];omega
    obtain ⟨Ak,ck,ek,_,_,_,_⟩:=own_form HK.out.1
    subst ek
    have hbk:Hid (base≤wr.heap.size):=Nat.le_trans HB.out HK.out.2.size
    have hbk2:Hid (base≤(wr.alloc (.cells #[.int .u8 ((t:Int) / 281474976710656 % 256)] 5)).heap.size):=by show _≤_;simp only [World.size_alloc];exact Nat.le_trans hbk.out (by omega)
    go_wp2_with (at_builtin;refine wpList_app _ rfl (.tmp 10) (.tmp 16) 24 rfl base 5 i0 (.int .u8 0) 1 1 Tryd.underlying24 HI.out.1 HI.out.2.1 HI.out.2.2.1 HI.out.2.2.2 rfl (by decide) (.slice Ak (n+1) ck) (n+1) (bv (l ++ (eightN t).take 1)) rfl (HK.out.1.alloc _) (wr.heap.size+1) (some ⟨wr.heap.size,0,none⟩) 1 1 [.int .u8 ((t:Int) / 281474976710656 % 256)] rfl (rd_new _ _ _ _ _ _ _ rfl (by omega) rfl rfl) (by simp [ones,Value.oneCell']) (by unfold maxLen;omega) (by omega) hbk2.out ?_)
    intro v1 w1 hown1 hgrow1
    have HN:Hid (w1.ownsRow base 5 1 v1 (n+2) (bv (l ++ (eightN t).take 2))∧Below base w w1):=by
     refine ⟨?_,(HK.out.2.alloc hbk.out _).grown hgrow1 hbk2.out (fun g hg=>(HK.out.1.lt g hg).1)⟩
     rw [hT.out,← List.append_assoc,bv_app,show bv [(eightN t).getD 1 0]=[.int .u8 ((t:Int) / 281474976710656 % 256)] by rw [hF.out];rfl]
     exact hown1
    clear hown1 hgrow1
    go_wp2
    go_roundw
    case rel=>exact ⟨2,by omega,by go_num,HN⟩
    case measure=>simp [intOf]
   ·have hF:Hid ((t:Int) / 1099511627776 % 256=(((eightN t).getD 2 0:Nat):Int)):=by show _=_;rw [hG.out];omega
    obtain ⟨Ak,ck,ek,_,_,_,_⟩:=own_form HK.out.1
    subst ek
    have hbk:Hid (base≤wr.heap.size):=Nat.le_trans HB.out HK.out.2.size
    have hbk2:Hid (base≤(wr.alloc (.cells #[.int .u8 ((t:Int) / 1099511627776 % 256)] 5)).heap.size):=by show _≤_;simp only [World.size_alloc];exact Nat.le_trans hbk.out (by omega)
    go_wp2_with (at_builtin;refine wpList_app _ rfl (.tmp 10) (.tmp 16) 24 rfl base 5 i0 (.int .u8 0) 1 1 Tryd.underlying24 HI.out.1 HI.out.2.1 HI.out.2.2.1 HI.out.2.2.2 rfl (by decide) (.slice Ak (n+2) ck) (n+2) (bv (l ++ (eightN t).take 2)) rfl (HK.out.1.alloc _) (wr.heap.size+1) (some ⟨wr.heap.size,0,none⟩) 1 1 [.int .u8 ((t:Int) / 1099511627776 % 256)] rfl (rd_new _ _ _ _ _ _ _ rfl (by omega) rfl rfl) (by simp [ones,Value.oneCell']) (by unfold maxLen;omega) (by omega) hbk2.out ?_)
    intro v1 w1 hown1 hgrow1
    have HN:Hid (w1.ownsRow base 5 1 v1 (n+3) (bv (l ++ (eightN t).take 3))∧Below base w w1):=by
     refine ⟨?_,(HK.out.2.alloc hbk.out _).grown hgrow1 hbk2.out (fun g hg=>(HK.out.1.lt g hg).1)⟩
     rw [hT.out,← List.append_assoc,bv_app,show bv [(eightN t).getD 2 0]=[.int .u8 ((t:Int) / 1099511627776 % 256)] by rw [hF.out];rfl]
     exact hown1
    clear hown1 hgrow1
    go_wp2
    go_roundw
    case rel=>exact ⟨3,by omega,by go_num,HN⟩
    case measure=>simp [intOf]
   ·have hF:Hid ((t:Int) / 4294967296 % 256=(((eightN t).getD 3 0:Nat):Int)):=by show _=_;rw [hG.out];omega
    obtain ⟨Ak,ck,ek,_,_,_,_⟩:=own_form HK.out.1
    subst ek
    have hbk:Hid (base≤wr.heap.size):=Nat.le_trans HB.out HK.out.2.size
    have hbk2:Hid (base≤(wr.alloc (.cells #[.int .u8 ((t:Int) / 4294967296 % 256)] 5)).heap.size):=by show _≤_;simp only [World.size_alloc];exact Nat.le_trans hbk.out (by omega)
    go_wp2_with (at_builtin;refine wpList_app _ rfl (.tmp 10) (.tmp 16) 24 rfl base 5 i0 (.int .u8 0) 1 1 Tryd.underlying24 HI.out.1 HI.out.2.1 HI.out.2.2.1 HI.out.2.2.2 rfl (by decide) (.slice Ak (n+3) ck) (n+3) (bv (l ++ (eightN t).take 3)) rfl (HK.out.1.alloc _) (wr.heap.size+1) (some ⟨wr.heap.size,0,none⟩) 1 1 [.int .u8 ((t:Int) / 4294967296 % 256)] rfl (rd_new _ _ _ _ _ _ _ rfl (by omega) rfl rfl) (by simp [ones,Value.oneCell']) (by unfold maxLen;omega) (by omega) hbk2.out ?_)
    intro v1 w1 hown1 hgrow1
    have HN:Hid (w1.ownsRow base 5 1 v1 (n+4) (bv (l ++ (eightN t).take 4))∧Below base w w1):=by
     refine ⟨?_,(HK.out.2.alloc hbk.out _).grown hgrow1 hbk2.out (fun g hg=>(HK.out.1.lt g hg).1)⟩
     rw [hT.out,← List.append_assoc,bv_app,show bv [(eightN t).getD 3 0]=[.int .u8 ((t:Int) / 4294967296 % 256)] by rw [hF.out];rfl]
     exact hown1
    clear hown1 hgrow1
    go_wp2
    go_roundw
    case rel=>exact ⟨4,by omega,by go_num,HN⟩
    case measure=>simp [intOf]
   ·have hF:Hid ((t:Int) / 16777216 % 256=(((eightN t).getD 4 0:Nat):Int)):=by show _=_;rw [hG.out];omega
    obtain ⟨Ak,ck,ek,_,_,_,_⟩:=own_form HK.out.1
    subst ek
    have hbk:Hid (base≤wr.heap.size):=Nat.le_trans HB.out HK.out.2.size
    have hbk2:Hid (base≤(wr.alloc (.cells #[.int .u8 ((t:Int) / 16777216 % 256)] 5)).heap.size):=by show _≤_;simp only [World.size_alloc];exact Nat.le_trans hbk.out (by omega)
    go_wp2_with (at_builtin;refine wpList_app _ rfl (.tmp 10) (.tmp 16) 24 rfl base 5 i0 (.int .u8 0) 1 1 Tryd.underlying24 HI.out.1 HI.out.2.1 HI.out.2.2.1 HI.out.2.2.2 rfl (by decide) (.slice Ak (n+4) ck) (n+4) (bv (l ++ (eightN t).take 4)) rfl (HK.out.1.alloc _) (wr.heap.size+1) (some ⟨wr.heap.size,0,none⟩) 1 1 [.int .u8 ((t:Int) / 16777216 % 256)] rfl (rd_new _ _ _ _ _ _ _ rfl (by omega) rfl rfl) (by simp [ones,Value.oneCell']) (by unfold maxLen;omega) (by omega) hbk2.out ?_)
    intro v1 w1 hown1 hgrow1
    have HN:Hid (w1.ownsRow base 5 1 v1 (n+5) (bv (l ++ (eightN t).take 5))∧Below base w w1):=by
     refine ⟨?_,(HK.out.2.alloc hbk.out _).grown hgrow1 hbk2.out (fun g hg=>(HK.out.1.lt g hg).1)⟩
     rw [hT.out,← List.append_assoc,bv_app,show bv [(eightN t).getD 4 0]=[.int .u8 ((t:Int) / 16777216 % 256)] by rw [hF.out];rfl]
     exact hown1
    clear hown1 hgrow1
    go_wp2
    go_roundw
    case rel=>exact ⟨5,by omega,by go_num,HN⟩
    case measure=>simp [intOf]
   ·have hF:Hid ((t:Int) / 65536 % 256=(((eightN t).getD 5 0:Nat):Int)):=by show _=_;rw [hG.out];omega
    obtain ⟨Ak,ck,ek,_,_,_,_⟩:=own_form HK.out.1
    subst ek
    have hbk:Hid (base≤wr.heap.size):=Nat.le_trans HB.out HK.out.2.size
    have hbk2:Hid (base≤(wr.alloc (.cells #[.int .u8 ((t:Int) / 65536 % 256)] 5)).heap.size):=by show _≤_;simp only [World.size_alloc];exact Nat.le_trans hbk.out (by omega)
    go_wp2_with (at_builtin;refine wpList_app _ rfl (.tmp 10) (.tmp 16) 24 rfl base 5 i0 (.int .u8 0) 1 1 Tryd.underlying24 HI.out.1 HI.out.2.1 HI.out.2.2.1 HI.out.2.2.2 rfl (by decide) (.slice Ak (n+5) ck) (n+5) (bv (l ++ (eightN t).take 5)) rfl (HK.out.1.alloc _) (wr.heap.size+1) (some ⟨wr.heap.size,0,none⟩) 1 1 [.int .u8 ((t:Int) / 65536 % 256)] rfl (rd_new _ _ _ _ _ _ _ rfl (by omega) rfl rfl) (by simp [ones,Value.oneCell']) (by unfold maxLen;omega) (by omega) hbk2.out ?_)
    intro v1 w1 hown1 hgrow1
    have HN:Hid (w1.ownsRow base 5 1 v1 (n+6) (bv (l ++ (eightN t).take 6))∧Below base w w1):=by
     refine ⟨?_,(HK.out.2.alloc hbk.out _).grown hgrow1 hbk2.out (fun g hg=>(HK.out.1.lt g hg).1)⟩
     rw [hT.out,← List.append_assoc,bv_app,show bv [(eightN t).getD 5 0]=[.int .u8 ((t:Int) / 65536 % 256)] by rw [hF.out];rfl]
     exact hown1
    clear hown1 hgrow1
    go_wp2
    go_roundw
    case rel=>exact ⟨6,by omega,by go_num,HN⟩
    case measure=>simp [intOf]
   ·have hF:Hid ((t:Int) / 256 % 256=(((eightN t).getD 6 0:Nat):Int)):=by show _=_;rw [hG.out];omega
    obtain ⟨Ak,ck,ek,_,_,_,_⟩:=own_form HK.out.1
    subst ek
    have hbk:Hid (base≤wr.heap.size):=Nat.le_trans HB.out HK.out.2.size
    have hbk2:Hid (base≤(wr.alloc (.cells #[.int .u8 ((t:Int) / 256 % 256)] 5)).heap.size):=by show _≤_;simp only [World.size_alloc];exact Nat.le_trans hbk.out (by omega)
    go_wp2_with (at_builtin;refine wpList_app _ rfl (.tmp 10) (.tmp 16) 24 rfl base 5 i0 (.int .u8 0) 1 1 Tryd.underlying24 HI.out.1 HI.out.2.1 HI.out.2.2.1 HI.out.2.2.2 rfl (by decide) (.slice Ak (n+6) ck) (n+6) (bv (l ++ (eightN t).take 6)) rfl (HK.out.1.alloc _) (wr.heap.size+1) (some ⟨wr.heap.size,0,none⟩) 1 1 [.int .u8 ((t:Int) / 256 % 256)] rfl (rd_new _ _ _ _ _ _ _ rfl (by omega) rfl rfl) (by simp [ones,Value.oneCell']) (by unfold maxLen;omega) (by omega) hbk2.out ?_)
    intro v1 w1 hown1 hgrow1
    have HN:Hid (w1.ownsRow base 5 1 v1 (n+7) (bv (l ++ (eightN t).take 7))∧Below base w w1):=by
     refine ⟨?_,(HK.out.2.alloc hbk.out _).grown hgrow1 hbk2.out (fun g hg=>(HK.out.1.lt g hg).1)⟩
     rw [hT.out,← List.append_assoc,bv_app,show bv [(eightN t).getD 6 0]=[.int .u8 ((t:Int) / 256 % 256)] by rw [hF.out];rfl]
     exact hown1
    clear hown1 hgrow1
    go_wp2
    go_roundw
    case rel=>exact ⟨7,by omega,by go_num,HN⟩
    case measure=>simp [intOf]
   ·have hF:Hid ((t:Int) % 256=(((eightN t).getD 7 0:Nat):Int)):=by show _=_;rw [hG.out];omega
    obtain ⟨Ak,ck,ek,_,_,_,_⟩:=own_form HK.out.1
    subst ek
    have hbk:Hid (base≤wr.heap.size):=Nat.le_trans HB.out HK.out.2.size
    have hbk2:Hid (base≤(wr.alloc (.cells #[.int .u8 ((t:Int) % 256)] 5)).heap.size):=by show _≤_;simp only [World.size_alloc];exact Nat.le_trans hbk.out (by omega)
    go_wp2_with (at_builtin;refine wpList_app _ rfl (.tmp 10) (.tmp 16) 24 rfl base 5 i0 (.int .u8 0) 1 1 Tryd.underlying24 HI.out.1 HI.out.2.1 HI.out.2.2.1 HI.out.2.2.2 rfl (by decide) (.slice Ak (n+7) ck) (n+7) (bv (l ++ (eightN t).take 7)) rfl (HK.out.1.alloc _) (wr.heap.size+1) (some ⟨wr.heap.size,0,none⟩) 1 1 [.int .u8 ((t:Int) % 256)] rfl (rd_new _ _ _ _ _ _ _ rfl (by omega) rfl rfl) (by simp [ones,Value.oneCell']) (by unfold maxLen;omega) (by omega) hbk2.out ?_)
    intro v1 w1 hown1 hgrow1
    have HN:Hid (w1.ownsRow base 5 1 v1 (n+8) (bv (l ++ (eightN t).take 8))∧Below base w w1):=by
     refine ⟨?_,(HK.out.2.alloc hbk.out _).grown hgrow1 hbk2.out (fun g hg=>(HK.out.1.lt g hg).1)⟩
     rw [hT.out,← List.append_assoc,bv_app,show bv [(eightN t).getD 7 0]=[.int .u8 ((t:Int) % 256)] by rw [hF.out];rfl]
     exact hown1
    clear hown1 hgrow1
    go_wp2
    go_roundw
    case rel=>exact ⟨8,by omega,by go_num,HN⟩
    case measure=>simp [intOf]
  ·obtain rfl:k=8:=by omega
   have HK':Hid (wr.ownsRow base 5 1 u0 (n+8) (bv (l ++ eightN t))∧Below base w wr):=HK
   clear HK hlt hk
   go_wp2
   go_ret
   exact ⟨_,rfl,HK'.out⟩
theorem parts_two {w:World} {B:Nat} {v u:Value} {a b:List Nat} (T:TypeId) (hv:IsPart w B v a) (hu:IsPart w B u b) (hB:B≤w.heap.size):Parts (w.alloc (.cells #[v,u] T)) (w.heap.size+1) (some ⟨w.heap.size,0,none⟩) [a,b]:=by
 have hb:Below w.heap.size w (w.alloc (.cells #[v,u] T)):=(Below.refl _ _).alloc (Nat.le_refl _) _
 refine ⟨[v,u],rd_new _ _ _ _ _ _ _ rfl (by omega) rfl rfl,fun j hj=>?_⟩
 simp only [List.length_cons,List.length_nil] at hj
 have:j=0∨j=1:=by omega
 rcases this with rfl | rfl
 ·exact ⟨v,rfl,(hv.below hb hB).more (by omega)⟩
 ·exact ⟨u,rfl,(hu.below hb hB).more (by omega)⟩
theorem IsPart.of_own {w:World} {base n:Nat} {v:Value} {l:List Nat} (h:w.ownsRow base 5 1 v n (bv l)) (hn:l.length≤140737488355328) (hl:∀ c ∈ l,c<256):IsPart w w.heap.size v l:=by
 have e:n=l.length:=by have:=h.1;simpa [bv] using this.symm
 subst e
 obtain ⟨A,c,rfl,h1,_,_,h2⟩:=own_form h
 rw [Nat.mul_one] at h2
 exact ⟨A,c,rfl,h2,h1,hn,hl⟩
def closeF (key:Nat) (num:Int) (head body:List Nat):List Nat :=
 maskN (stpN key (unN num)) body ++ eightN (tagN (stpN key (unN num)) [head,maskN (stpN key (unN num)) body])
theorem closeF_len (key:Nat) (num:Int) (head body:List Nat):(closeF key num head body).length=body.length+8:=by
 simp [closeF,maskN_len,eightN]
theorem closeF_lt (key:Nat) (num:Int) (head body:List Nat) (hb:∀ c ∈ body,c<256):∀ c ∈ closeF key num head body,c<256:=fun c hc=>by
 rw [closeF,List.mem_append] at hc
 rcases hc with h | h
 ·exact maskN_lt _ _ hb c h
 ·exact eightN_lt _ c h
theorem close_any (key:Nat) (num:Int) (head body:List Nat) (vh vb:Value) (B:Nat) (w:World) (hk:key<2 ^ 64) (hh:IsPart w B vh head) (hb:IsPart w B vb body) (hB:B≤w.heap.size) (hm:body.length≤140737488355320) :
  Calls Tryd.prog 24 #[.int .u64 (key:Int),.int .i64 num,vh,vb] w fun e w'=>∃ v',e=.returned v'∧w'.ownsRow w.heap.size 5 1 v' (body.length+8) (bv (closeF key num head body))∧Below w.heap.size w w':=by
 have HH:=Lib.hid hh
 have HBw:=Lib.hid hB
 obtain ⟨Ah,ch,rfl,_,_,_,_⟩:=hh
 obtain ⟨Ab,cb,rfl,hrb,hcb,hmb,hlb⟩:=hb
 have M:=Lib.hid (mask_any key num body B Ab cb w hk hrb hB hlb hcb hmb)
 have N:=Lib.hid (fun W=>numbered_any key num W hk)
 have hh2:=stpN_lt key (unN num)
 unfold closeF
 obtain ⟨h,hhh⟩:∃ h,Hid (stpN key (unN num)=h):=⟨_,rfl⟩
 rw [hhh.out] at M N hh2 ⊢
 have HM:=Lib.hid (maskN_lt h body hlb)
 have HML:=Lib.hid (maskN_len h body)
 obtain ⟨m,hmm⟩:∃ m,Hid (maskN h body=m):=⟨_,rfl⟩
 rw [hmm.out] at M HM HML ⊢
 have HH2:=Lib.hid hh2
 have hT:=tagN_lt [head,m] h HH2.out
 obtain ⟨t,htt⟩:∃ t,Hid (tagN h [head,m]=t):=⟨_,rfl⟩
 rw [htt.out] at hT ⊢
 have HT:=Lib.hid hT
 clear hk hrb hB hlb hh2 hT
 go_enter Tryd.func24,Tryd.ntmps24
 go_wp2_with fail
 refine M.out.mono ?_;rintro e w1 ⟨v1,rfl,ho1,hb1⟩
 have HP1:=Lib.hid (IsPart.of_own ho1 (by rw [HML.out];exact hmb) HM.out)
 obtain ⟨A1,c1,e1,_⟩:=own_form ho1
 subst e1
 have H1:=Lib.hid (And.intro ho1 hb1)
 clear ho1 hb1
 go_wp2_with fail
 refine (N.out _).mono ?_;rintro e w' ⟨rfl,rfl⟩
 have HW:Hid (B≤w1.heap.size):=Nat.le_trans HBw.out H1.out.2.size
 have HPs:=parts_two 24 ((HH.out.below H1.out.2 HBw.out).more HW.out) HP1.out (Nat.le_refl _)
 have T:=tag_any h [head,m] _ _ 2 _ HH2.out HPs (Nat.le_refl _) (by simp)
 rw [htt.out] at T
 have T:=Lib.hid T
 clear HPs
 go_wp2_with fail
 refine T.out.mono ?_;rintro e w' ⟨rfl,rfl⟩
 have L:=Lib.hid (lay_any (.slice A1 body.length c1) body.length m t w.heap.size _ (H1.out.1.alloc (.cells #[.slice Ah head.length ch,.slice A1 body.length c1] 24)) (by have:=H1.out.2.size;simp only [World.size_alloc];omega) HT.out hm)
 go_wp2_with fail
 refine L.out.mono ?_;rintro e w3 ⟨v3,rfl,ho3,hb3⟩
 have H3:=Lib.hid (And.intro ho3 ((H1.out.2.alloc H1.out.2.size _).trans hb3))
 clear ho3 hb3
 go_wp2
 go_ret
 exact ⟨_,rfl,H3.out⟩
/-- What Open answers. -/
def openB (key:Nat) (num:Int) (head sealed:List Nat):Bool :=
 decide (8≤sealed.length∧readN (sealed.drop (sealed.length - 8))=tagN (stpN key (unN num)) [head,sealed.take (sealed.length - 8)])
theorem open_long (key:Nat) (num:Int) (head sealed:List Nat) (vh vs:Value) (B:Nat) (w:World) (hk:key<2 ^ 64) (hh:IsPart w B vh head) (hb:IsPart w B vs sealed) (hB:B≤w.heap.size) (n:Nat) (hn:sealed.length=n+8) :
  Calls Tryd.prog 35 #[.int .u64 (key:Int),.int .i64 num,vh,vs] w fun e w'=>∃ v',e=.returned (.tuple #[v',.bool (openB key num head sealed)])∧(openB key num head sealed=true→w'.ownsRow w.heap.size 5 1 v' n (bv (maskN (stpN key (unN num)) (sealed.take n))))∧(openB key num head sealed=false→v'=.slice none 0 0)∧Below w.heap.size w w':=by
 have HH:=Lib.hid hh
 have HBw:=Lib.hid hB
 obtain ⟨Ah,ch,rfl,_,_,_,_⟩:=hh
 obtain ⟨Ab,cb,rfl,hrb,hcb,hmb,hlb⟩:=hb
 rw [hn] at hrb hcb hmb ⊢
 obtain ⟨b,off,hA,_,_⟩:=hrb.2 (by omega)
 subst hA
 have hr1:=hrb.head n (by omega)
 have hr2:=hrb.tail cb n (by omega) hcb
 rw [bv_take] at hr1
 rw [bv_drop,show n+8 - n=8 by omega] at hr2
 have hl1:(sealed.take n).length=n:=by rw [List.length_take];omega
 have hl2:(sealed.drop n).length=8:=by rw [List.length_drop];omega
 have b1:∀ c ∈ sealed.take n,c<256:=fun c hc=>hlb c (List.mem_of_mem_take hc)
 have b2:∀ c ∈ sealed.drop n,c<256:=fun c hc=>hlb c (List.mem_of_mem_drop hc)
 have HO:Hid (openB key num head sealed=decide (readN (sealed.drop n)=tagN (stpN key (unN num)) [head,sealed.take n])):=by
  show _=_
  unfold openB
  rw [hn,show n+8 - 8=n by omega]
  simp
 rw [HO.out]
 obtain ⟨a,haa⟩:∃ a,Hid (sealed.take n=a):=⟨_,rfl⟩
 obtain ⟨z,hzz⟩:∃ z,Hid (sealed.drop n=z):=⟨_,rfl⟩
 rw [haa.out] at hr1 hl1 b1 ⊢
 rw [hzz.out] at hr2 hl2 b2 ⊢
 clear hrb hlb
 have ht:tailA (some ⟨b,off,none⟩) cb n=some ⟨b,off+n,none⟩:=by unfold tailA;rw [if_neg (by omega)];simp [Addr.add_lit]
 rw [ht] at hr2
 clear ht
 have R:=read_any z B (some ⟨b,off+n,none⟩) (cb - n) w (by rw [hl2];exact hr2) b2 (by omega) (by omega)
 have N:=Lib.hid (fun W=>numbered_any key num W hk)
 have hq:=stpN_lt key (unN num)
 have HPa:Hid (IsPart w B (.slice (some ⟨b,off,none⟩) n cb) a):=⟨_,_,by rw [hl1],by rw [hl1];exact hr1,by omega,by omega,b1⟩
 have M:=Lib.hid (fun (W:World) (h1:Rd W B (some ⟨b,off,none⟩) a.length (bv a)) (h2:B≤W.heap.size)=>mask_any key num a B (some ⟨b,off,none⟩) cb W hk h1 h2 b1 (by omega) (by omega))
 obtain ⟨q,hqq⟩:∃ q,Hid (stpN key (unN num)=q):=⟨_,rfl⟩
 rw [hqq.out] at N hq M HO ⊢
 have T:=Lib.hid (fun (W:World) (h:IsPart W B (.slice Ah head.length ch) head∧IsPart W B (.slice (some ⟨b,off,none⟩) n cb) a∧B≤W.heap.size)=>tag_any q [head,a] _ _ 2 _ hq (parts_two 24 h.1 h.2.1 h.2.2) (Nat.le_refl _) (by simp))
 obtain ⟨t,htt⟩:∃ t,Hid (tagN q [head,a]=t):=⟨_,rfl⟩
 obtain ⟨r,hrr⟩:∃ r,Hid (readN z=r):=⟨_,rfl⟩
 rw [htt.out] at T ⊢
 rw [hrr.out,hl2] at R
 rw [hrr.out] at ⊢
 have T1:=Lib.hid (T.out w ⟨HH.out,HPa.out,HBw.out⟩)
 have R:=Lib.hid R
 have HRA:=Lib.hid hr1
 have HL1:=Lib.hid hl1
 have hnc:(n:Int)≤(cb:Int):=by omega
 have hnc2:¬ (cb:Int)=(n:Int):=by omega
 have hnc3:¬ cb=n:=by omega
 have hn8:(n:Int)+8≤(cb:Int):=by omega
 clear hr1 hr2 hl1 hl2 b1 b2 hk hn hB hq
 by_cases hE:r=t
 ·subst hE
  rw [decide_eq_true rfl]
  go_enter Tryd.func35,Tryd.ntmps35
  go_wp2_with fail
  refine R.out.mono ?_;rintro e w' ⟨rfl,rfl⟩
  go_wp2_with fail
  refine (N.out _).mono ?_;rintro e w' ⟨rfl,rfl⟩
  go_wp2_with fail
  refine T1.out.mono ?_;rintro e w' ⟨rfl,rfl⟩
  have M1:=M.out (w.alloc (.cells #[.slice Ah head.length ch,.slice (some ⟨b,off,none⟩) n cb] 24)) (by rw [HL1.out];exact HRA.out.alloc HBw.out _) (by have:=HBw.out;simp only [World.size_alloc];omega)
  rw [HL1.out] at M1
  have M1:=Lib.hid M1
  go_wp2_with fail
  refine M1.out.mono ?_;rintro e w3 ⟨v3,rfl,ho3,hb3⟩
  have H3:=Lib.hid (And.intro (own_base ho3 (show w.heap.size≤_ by simp)) (((Below.refl _ _).alloc (Nat.le_refl _) _).trans (hb3.mono (by simp))))
  clear ho3 hb3
  go_wp2
  go_ret2
  exact ⟨_,rfl,fun _=>H3.out.1,fun h=>(by cases h),H3.out.2⟩
 ·have e1:((r:Int) == (t:Int))=false:=by simp;omega
  have e2:((r:Int) != (t:Int))=true:=by simp;omega
  have e3:¬ (r:Int)=(t:Int):=by omega
  rw [decide_eq_false hE]
  go_enter Tryd.func35,Tryd.ntmps35
  go_wp2_with fail
  refine R.out.mono ?_;rintro e w' ⟨rfl,rfl⟩
  go_wp2_with fail
  refine (N.out _).mono ?_;rintro e w' ⟨rfl,rfl⟩
  go_wp2_with fail
  refine T1.out.mono ?_;rintro e w' ⟨rfl,rfl⟩
  go_wp2
  go_ret2
  exact ⟨_,rfl,fun h=>(by cases h),fun _=>rfl,(Below.refl _ _).alloc (Nat.le_refl _) _⟩
theorem tagN_cons (h:Nat) (p:List Nat) (ps:List (List Nat)):tagN h (p :: ps)=tagN (partN h p) ps:=by unfold tagN;rw [List.foldl_cons]
theorem tagN_nil (h:Nat):tagN h []=h:=by unfold tagN;rw [List.foldl_nil]
theorem tagN_pair (h:Nat) (a b:List Nat):tagN h [a,b]=partN (partN h a) b:=by rw [tagN_cons,tagN_cons,tagN_nil]
theorem tagN_h {g h:Nat} {a b:List Nat} (hg:g<2 ^ 64) (hh:h<2 ^ 64) (ha:∀ c ∈ a,c<256) (hb:∀ c ∈ b,c<256) (na:a.length<2 ^ 63) (nb:b.length<2 ^ 63) (e:tagN g [a,b]=tagN h [a,b]):g=h:=by
 rw [tagN_pair,tagN_pair] at e
 exact partN_h a ha na hg hh (partN_h b hb nb (partN_lt _ _) (partN_lt _ _) e)
theorem openB_close (key key':Nat) (num num':Int) (head body:List Nat) (hh:∀ c ∈ head,c<256) (hb:∀ c ∈ body,c<256) (nh:head.length<2 ^ 63) (nb:body.length<2 ^ 63) :
  openB key' num' head (closeF key num head body)=decide (stpN key' (unN num')=stpN key (unN num)):=by
 have hl:=closeF_len key num head body
 have hs:=stpN_lt key (unN num)
 have hs':=stpN_lt key' (unN num')
 unfold openB
 rw [hl,Nat.add_sub_cancel]
 unfold closeF
 generalize stpN key (unN num)=s at hs ⊢
 generalize stpN key' (unN num')=s' at hs' ⊢
 have hm:=maskN_lt s body hb
 have hml:=maskN_len s body
 generalize maskN s body=m at hm hml ⊢
 rw [← hml,List.take_left,List.drop_left,readN_eight _ (tagN_lt _ _ hs)]
 by_cases e:s'=s
 ·subst e
  rw [decide_eq_true rfl,decide_eq_true ⟨by omega,rfl⟩]
 ·rw [decide_eq_false e,decide_eq_false]
  rintro ⟨_,e2⟩
  exact e (tagN_h hs hs' hh hm nh (by rw [hml];exact nb) e2).symm
end Go.Proofs.YtccljifichaieaaDoor.Sl
