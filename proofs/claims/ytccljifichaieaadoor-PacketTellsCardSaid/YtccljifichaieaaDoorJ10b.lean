/- Joined texts. Conditions: as each theorem lists them. -/
import Derived.Test.YtccljifichaieaaDoorJ10
import Derived.Test.YtccljifichaieaaDoorJ3c
import Derived.BigQuiet
import Derived.OwnWalk
import Derived.Test.YtccljifichaieaaDoorJ7
set_option linter.unusedSimpArgs false
set_option linter.unusedVariables false
set_option maxRecDepth 100000
set_option maxHeartbeats 8000000
namespace Go.Proofs.YtccljifichaieaaDoor
open Go Go.RowKit
theorem valN_take_lt (ds:List Nat) (h:∀ z ∈ ds,z<256) (h4:ds.length≤4) (k:Nat) (hk:k<ds.length):valN (ds.take k)<16777216:=by
 have hh:∀ z ∈ ds.take k,z<256:=fun z hz=>h z (List.mem_of_mem_take hz)
 have hl:(ds.take k).length≤3:=by rw [List.length_take];omega
 generalize ds.take k=l at hh hl
 match l,hl with
 | [],_=>decide
 | [a],_=>simp [valN] at hh ⊢;omega
 | [a,b],_=>simp [valN] at hh ⊢;omega
 | [a,b,c],_=>simp [valN] at hh ⊢;omega
theorem numberOf_any (h0:Nat) (ds:List Nat) (next:Int) (B:Nat) (A:Option Addr) (c:Nat) (w:World) (hx:Rd w B A (ds.length+1) (bv (h0 :: ds))) (hd:∀ z ∈ ds,z<256) (h1:1≤ds.length) (h4:ds.length≤4) (hc:ds.length+1≤c) :
  Calls Tryd.prog 34 #[.slice A (ds.length+1) c,.int .i64 next] w fun e w'=>e=.returned (.int .i64 (Pn.backF (valN ds:Int) (ds.length:Int) next))∧w=w':=by
 obtain ⟨b,off,rfl,hb,hcell⟩:=hx.2 (by omega)
 have HCE:Hid (∀ j,j<ds.length→w.cell? ⟨b,off+1+j,none⟩=some (.int .u8 ((ds.getD j 0:Nat):Int))):=fun j hj=>by
  have:=hcell (1+j) (.int .u8 ((ds.getD j 0:Nat):Int)) (by
   show (bv (h0 :: ds))[1+j]?=_
   rw [Nat.add_comm 1 j]
   simp [bv,List.getD,hj])
  rwa [← Nat.add_assoc] at this
 have HV:=Lib.hid (fun k hk=>valN_take_lt ds hd h4 k hk)
 have HD:=Lib.hid hd
 have HVL:=Lib.hid (valN_lt ds hd h4)
 clear hcell hx hd
 obtain ⟨n,hn⟩:∃ n,Hid (ds.length=n):=⟨_,rfl⟩
 rw [hn.out] at HCE HV h1 h4 hc ⊢
 have HBK:=Lib.hid (fun W=>Pn.back_any (valN ds:Int) (n:Int) next W)
 have hci:¬ (c:Int)=1:=by omega
 have hc1:¬ c=1:=by omega
 have hc2:(1:Int)≤(c:Int):=by omega
 have hc3:(n:Int)+1≤(c:Int):=by omega
 have hn0:¬ (n:Int)+1<1:=by omega
 go_enter Tryd.func34,Tryd.ntmps34
 go_wp2
 go_loop [5,11] (fun v i=>∃ k:Nat,k≤n∧i=.int .i64 k∧v=.int .i64 (valN (ds.take k):Int)) (fun _ i=>n - (intOf i).toNat)
 case atStart=>exact ⟨0,Nat.zero_le _,rfl,rfl⟩
 case round =>
  obtain ⟨k,hk,rfl,rfl⟩:=hrel
  by_cases hlt:k<n
  ·have hlti:(k:Int)<(n:Int):=by omega
   have hcell:=HCE.out k hlt
   have hx:=getD_lt HD.out k
   have hS:Hid (valN (ds.take (k+1))=valN (ds.take k) * 256+ds.getD k 0):=by show _=_;rw [take_snoc ds k (by rw [hn.out];exact hlt),valN_snoc]
   have ht:=HV.out k hlt
   obtain ⟨x,hxx⟩:∃ x,Hid (ds.getD k 0=x):=⟨_,rfl⟩
   obtain ⟨t,htt⟩:∃ t,Hid (valN (ds.take k)=t):=⟨_,rfl⟩
   rw [hxx.out] at hcell hx hS
   rw [htt.out] at ht hS ⊢
   have HF:=Lib.hid (or_byte t x (by omega) hx)
   go_wp2
   go_round
   case rel=>exact ⟨k+1,by omega,by go_num,by rw [HF.out,hS.out]⟩
   case measure=>simp [intOf];omega
  ·obtain rfl:k=n:=by omega
   have e:ds.take k=ds:=List.take_of_length_le (by rw [hn.out];exact Nat.le_refl _)
   rw [e]
   clear e
   go_wp2_with fail
   refine (HBK.out _).mono ?_;rintro e w' ⟨rfl,rfl⟩
   go_wp2_with fail
   go_ret
   exact ⟨rfl,rfl⟩
/-- What split says of these bytes: an error; 0, if they may be a packet's. -/
def splitE (bs:List Nat):Int:=if bs.length=0 then 3 else if bs.getD 0 0<64∨67<bs.getD 0 0 then 2 else if bs.length<bs.getD 0 0 - 62+8 then 3 else 0
def SplitP (bs:List Nat) (w:World) (B:Nat) (A:Option Addr) (c:Nat) (e:Ending) (w':World):Prop :=
 Below w.heap.size w w'∧(splitE bs≠0→e=.returned (.tuple #[.slice none 0 0,.slice none 0 0,.int .i64 (splitE bs)])) ∧
 (splitE bs=0→∃ n A',n=bs.getD 0 0 - 62∧2≤n∧n≤5∧n+8≤bs.length∧e=.returned (.tuple #[.slice A n c,.slice A' (bs.length - n) (c - n),.int .i64 0])∧Rd w B A n (bv (bs.take n))∧Rd w B A' (bs.length - n) (bv (bs.drop n)))
theorem split_any (bs:List Nat) (B:Nat) (A:Option Addr) (c:Nat) (w:World) (hx:Rd w B A bs.length (bv bs)) (hc:bs.length≤c) (hm:bs.length≤140737488355328) :
  Calls Tryd.prog 33 #[.slice A bs.length c] w (SplitP bs w B A c):=by
 rcases Nat.eq_zero_or_pos bs.length with h0 | h0
 ·have hE:splitE bs=3:=by unfold splitE;rw [if_pos h0]
  have fin:∀ e w',e=.returned (.tuple #[.slice none 0 0,.slice none 0 0,.int .i64 3])→Below w.heap.size w w'→SplitP bs w B A c e w':=fun e w' h1 h2=>⟨h2,fun _=>by rw [hE];exact h1,fun h=>by rw [hE] at h;cases h⟩
  have FIN:=Lib.hid fin
  rw [h0]
  clear fin hE hx
  go_enter Tryd.func33,Tryd.ntmps33
  go_wp2
  go_ret3
  exact FIN.out _ _ rfl (by first | exact Below.refl _ _ | exact ⟨(Below.refl w.heap.size w).os,(Below.refl w.heap.size w).tape,(Below.refl w.heap.size w).output,(Below.refl w.heap.size w).size,(Below.refl w.heap.size w).block⟩)
 ·obtain ⟨b,off,rfl,hb,hcell⟩:=hx.2 (by omega)
  have g0:w.cell? ⟨b,off,none⟩=some (.int .u8 ((bs.getD 0 0:Nat):Int)):=by
   have:=hcell 0 _ (bv_get bs 0 h0)
   simpa using this
  obtain ⟨x,hxx⟩:∃ x,bs.getD 0 0=x:=⟨_,rfl⟩
  rw [hxx] at g0
  have hne:¬ (bs.length:Int)=0:=by omega
  have hcp:(0:Int)<(bs.length:Int):=by omega
  have HX:=Lib.hid hx
  clear hcell hx
  by_cases hlo:x<64
  ·have hE:splitE bs=2:=by unfold splitE;rw [if_neg (by omega),hxx,if_pos (.inl hlo)]
   have FIN:Hid (∀ e w',e=.returned (.tuple #[.slice none 0 0,.slice none 0 0,.int .i64 2])→Below w.heap.size w w'→SplitP bs w B (some ⟨b,off,none⟩) c e w'):=fun e w' h1 h2=>⟨h2,fun _=>by rw [hE];exact h1,fun h=>by rw [hE] at h;cases h⟩
   have d1:(x:Int)<64:=by omega
   clear hE hxx
   go_enter Tryd.func33,Tryd.ntmps33
   go_wp2
   go_ret3
   exact FIN.out _ _ rfl (by first | exact Below.refl _ _ | exact ⟨(Below.refl w.heap.size w).os,(Below.refl w.heap.size w).tape,(Below.refl w.heap.size w).output,(Below.refl w.heap.size w).size,(Below.refl w.heap.size w).block⟩)
  ·by_cases hhi:67<x
   ·have hE:splitE bs=2:=by unfold splitE;rw [if_neg (by omega),hxx,if_pos (.inr hhi)]
    have FIN:Hid (∀ e w',e=.returned (.tuple #[.slice none 0 0,.slice none 0 0,.int .i64 2])→Below w.heap.size w w'→SplitP bs w B (some ⟨b,off,none⟩) c e w'):=fun e w' h1 h2=>⟨h2,fun _=>by rw [hE];exact h1,fun h=>by rw [hE] at h;cases h⟩
    have d1:¬ (x:Int)<64:=by omega
    have d2:(67:Int)<(x:Int):=by omega
    clear hE hxx
    go_enter Tryd.func33,Tryd.ntmps33
    go_wp2
    go_ret3
    exact FIN.out _ _ rfl (by first | exact Below.refl _ _ | exact ⟨(Below.refl w.heap.size w).os,(Below.refl w.heap.size w).tape,(Below.refl w.heap.size w).output,(Below.refl w.heap.size w).size,(Below.refl w.heap.size w).block⟩)
   ·have d1:¬ (x:Int)<64:=by omega
    have d2:¬ (67:Int)<(x:Int):=by omega
    obtain ⟨k,rfl⟩:∃ k,x=k+62:=⟨x - 62,by omega⟩
    have hk2:2≤k:=by omega
    have hk5:k≤5:=by omega
    have HS:Hid (∀ W:World,Calls Tryd.prog 28 #[.int .i64 ((k:Int)+62 - 64+1)] W fun e w'=>e=.returned (.int .i64 (k:Int))∧W=w'):=fun W=>by
     have:=headSize_any ((k:Int)+62 - 64+1) W (by omega) (by omega)
     rwa [show (1:Int)+((k:Int)+62 - 64+1)=(k:Int) by omega] at this
    by_cases hsh:bs.length<k+8
    ·have hE:splitE bs=3:=by unfold splitE;rw [if_neg (by omega),hxx,if_neg (by omega),if_pos (by omega)]
     have FIN:Hid (∀ e w',e=.returned (.tuple #[.slice none 0 0,.slice none 0 0,.int .i64 3])→Below w.heap.size w w'→SplitP bs w B (some ⟨b,off,none⟩) c e w'):=fun e w' h1 h2=>⟨h2,fun _=>by rw [hE];exact h1,fun h=>by rw [hE] at h;cases h⟩
     clear hE hxx
     have d3:(bs.length:Int)<(k:Int)+8:=by omega
     go_enter Tryd.func33,Tryd.ntmps33
     go_wp2_with fail
     refine (HS.out _).mono ?_;rintro e w' ⟨rfl,rfl⟩
     go_wp2
     go_ret3
     exact FIN.out _ _ rfl (by first | exact Below.refl _ _ | exact ⟨(Below.refl w.heap.size w).os,(Below.refl w.heap.size w).tape,(Below.refl w.heap.size w).output,(Below.refl w.heap.size w).size,(Below.refl w.heap.size w).block⟩)
    ·have hE:splitE bs=0:=by unfold splitE;rw [if_neg (by omega),hxx,if_neg (by omega),if_neg (by omega)]
     have FIN:Hid (∀ e w',e=.returned (.tuple #[.slice (some ⟨b,off,none⟩) k c,.slice (some ⟨b,off+k,none⟩) (bs.length - k) (c - k),.int .i64 0])→Below w.heap.size w w'→SplitP bs w B (some ⟨b,off,none⟩) c e w'):=fun e w' h1 h2=>by
      refine ⟨h2,fun h=>absurd hE h,fun _=>⟨k,some ⟨b,off+k,none⟩,by omega,by omega,by omega,by omega,h1,?_,?_⟩⟩
      ·have:=HX.out.head k (by omega)
       rwa [bv_take] at this
      ·have:=HX.out.tail' k (by omega)
       rwa [bv_drop] at this
     clear hE hxx
     have d3:¬ (bs.length:Int)<(k:Int)+8:=by omega
     have d4:(k:Int)≤(c:Int):=by omega
     have d5:(k:Int)≤(bs.length:Int):=by omega
     have d6:(bs.length:Int)≤(c:Int):=by omega
     have d7:¬ (c:Int)=(k:Int):=by omega
     have d8:¬ c=k:=by omega
     go_enter Tryd.func33,Tryd.ntmps33
     go_wp2_with fail
     refine (HS.out _).mono ?_;rintro e w' ⟨rfl,rfl⟩
     go_wp2_with fail
     go_quiet (fail)
     go_wp2
     go_ret3
     exact FIN.out _ _ rfl (by first | exact Below.refl _ _ | exact ⟨(Below.refl w.heap.size w).os,(Below.refl w.heap.size w).tape,(Below.refl w.heap.size w).output,(Below.refl w.heap.size w).size,(Below.refl w.heap.size w).block⟩)
def PkP (key:Nat) (num acked:Int) (body:List Nat) (w:World) (e:Ending) (w':World):Prop :=
 Below w.heap.size w w' ∧
 ((body.length:Int)≤231 - (kN num acked:Int)→∃ A c,e=.returned (.tuple #[.slice A (kN num acked+9+body.length) c,.int .i64 0])∧w'.ownsRow w.heap.size 5 1 (.slice A (kN num acked+9+body.length) c) (kN num acked+9+body.length) (bv (packN key num acked body))) ∧
 (231 - (kN num acked:Int)<(body.length:Int)→e=.returned (.tuple #[.slice none 0 0,.int .i64 9]))
theorem pkLay_any (key:Nat) (num acked:Int) (fs:List Fr) (A:Option Addr) (n c:Nat) (w:World) (ht:Tabs w) (h:Frs w A n c fs) (hok:∀ f ∈ fs,OkF f) (hn:n≤100) (hk:key<2 ^ 64) (ha:-1≤acked) (hlt:acked<num) (hM:num≤4611686018427387903) :
  Calls Tryd.prog 7 #[.int .u64 (key:Int),.int .i64 num,.int .i64 acked,.slice A n c] w (PkP key num acked (layF fs) w):=by
 have HLA:=Lib.hid (lay_ok fs A n c w ht h hok hn)
 have HBL:Hid (∀ x ∈ layF fs,x<256):=fun x hx=>by
  obtain ⟨f,hf,hx⟩:=List.mem_flatMap.1 hx
  exact encF_lt (hok f hf) x hx
 have HLL:Hid ((layF fs).length≤31200):=by
  have:=layF_len hok
  have:=h.1
  show _≤_
  omega
 obtain ⟨body,hbody⟩:∃ b,layF fs=b:=⟨_,rfl⟩
 unfold LayP at HLA
 rw [hbody] at HLA HBL HLL ⊢
 have HKK:=Lib.hid hk
 obtain ⟨k1,k4⟩:=kN_in num acked
 have HRM:=Lib.hid (fun W=>room_any num acked W (by omega) (by omega))
 have HBY:=Lib.hid (fun W=>Pn.bytes_at num acked (kN num acked) (kN_eq num acked) W (by omega) (by omega))
 have HLH:=Lib.hid (fun W=>layHead_any num (kN num acked) W k1 k4)
 have HHL:=Lib.hid (headN_lt num (kN num acked) k4)
 have HLN:=Lib.hid (headN_len num (kN num acked))
 unfold PkP packN
 obtain ⟨hd,hhd⟩:∃ x,headN num (kN num acked)=x:=⟨_,rfl⟩
 rw [hhd] at HLH HHL HLN ⊢
 obtain ⟨k,hkk⟩:∃ x,kN num acked=x:=⟨_,rfl⟩
 rw [hkk] at HRM HBY HLH HLN k1 k4 ⊢
 have a1:¬ acked < -1:=by omega
 have a2:¬ num≤acked:=by omega
 have a3:¬ 4611686018427387903<num:=by omega
 obtain ⟨i0,hi,hz0,hz1,hz2⟩:=info_parts infoB
 have HI:=Lib.hid (And.intro hi (And.intro hz0 (And.intro hz1 hz2)))
 clear hhd hkk hbody ht h hok hk hi hz0 hz1 hz2
 go_enter Tryd.func7,Tryd.ntmps7
 go_wp2_with fail
 refine HLA.out.mono ?_
 rintro e w1 ⟨Ab,nb,cb,rfl,hlb,hob,hb⟩
 subst hlb
 have HOB:=Lib.hid hob
 have HB1:=Lib.hid hb
 clear hob hb HLA
 go_wp2_with fail
 refine (HRM.out _).mono ?_;rintro e w' ⟨rfl,rfl⟩
 by_cases hfit:(body.length:Int)≤231 - (k:Int)
 ·have hng:¬ 231 - (k:Int)<(body.length:Int):=by omega
  go_wp2_with fail
  refine (HBY.out _).mono ?_;rintro e w' ⟨rfl,rfl⟩
  go_wp2_with fail
  refine (HLH.out _).mono ?_
  rintro e w2 ⟨vh,rfl,hoh,hb⟩
  have HOH:=Lib.hid (own_base hoh HB1.out.size)
  have HB2:Hid (Below w.heap.size w w2):=HB1.out.trans (hb.mono HB1.out.size)
  have HOB2:Hid (w2.ownsRow w.heap.size 5 1 (.slice Ab body.length cb) body.length (bv body)):=own_below HOB.out hb
  obtain ⟨Ah,ch,rfl,_⟩:=own_form hoh
  have HCL:=Lib.hid (Sl.close_any key num hd body _ _ w2.heap.size w2 HKK.out (Sl.IsPart.of_own HOH.out (by have:=HLN.out;omega) HHL.out) (Sl.IsPart.of_own HOB2.out (by omega) HBL.out) (Nat.le_refl _) (by omega))
  clear hoh hb
  go_wp2_with fail
  refine HCL.out.mono ?_
  rintro e w3 ⟨vs,rfl,hos,hb⟩
  have HB3:Hid (Below w.heap.size w w3):=HB2.out.trans (hb.mono HB2.out.size)
  have HOH3:Hid (w3.ownsRow w.heap.size 5 1 (.slice Ah (k+1) ch) (k+1) (bv hd)):=own_below HOH.out hb
  obtain ⟨As,cs,rfl,_,_,_,hrs⟩:=own_form hos
  have HRS:=Lib.hid hrs
  clear hos hb hrs HCL
  go_wp2_with (at_builtin;refine wpList_app _ rfl (.tmp 43) (.tmp 48) 24 rfl w.heap.size 5 i0 (.int .u8 0) 1 1 Tryd.underlying24 HI.out.1 HI.out.2.1 HI.out.2.2.1 HI.out.2.2.2 rfl (by decide) (.slice Ah (k+1) ch) (k+1) (bv hd) rfl HOH3.out w3.heap.size As (body.length+8) cs (bv (Sl.closeF key num hd body)) rfl HRS.out (ones_bv _) (by unfold maxLen;omega) (by omega) HB3.out.size ?_)
  intro v4 w4 hown1 hgrow1
  have HB4:Hid (Below w.heap.size w w4):=HB3.out.grown hgrow1 HB3.out.size (fun g hg=>(HOH3.out.lt g hg).1)
  obtain ⟨A4,c4,rfl,_⟩:=own_form hown1
  have HN:Hid (w4.ownsRow w.heap.size 5 1 (.slice A4 (k+1+(body.length+8)) c4) (k+1+(body.length+8)) (bv (hd ++ Sl.closeF key num hd body))):=by
   rw [bv_app];exact hown1
  clear hown1 hgrow1
  go_wp2
  go_ret2
  have e9:k+9+body.length=k+1+(body.length+8):=by omega
  rw [e9]
  exact ⟨HB4.out,fun _=>⟨A4,c4,rfl,HN.out⟩,fun h=>absurd h (by omega)⟩
 ·have hng:231 - (k:Int)<(body.length:Int):=by omega
  go_wp2
  go_ret2
  exact ⟨HB1.out,fun h=>absurd h (by omega),fun _=>rfl⟩
def hdN (bs:List Nat):List Nat:=bs.take (bs.getD 0 0 - 62)
def slN (bs:List Nat):List Nat:=bs.drop (bs.getD 0 0 - 62)
def nmN (bs:List Nat) (next:Int):Int:=Pn.backF (valN ((hdN bs).drop 1):Int) (((hdN bs).drop 1).length:Int) next
def bdN (key:Nat) (next:Int) (bs:List Nat):List Nat:=Sl.maskN (Sl.stpN key (Sl.unN (nmN bs next))) ((slN bs).take ((slN bs).length - 8))
def RdP (key:Nat) (next:Int) (bs:List Nat) (w:World) (e:Ending) (w':World):Prop :=
 Below w.heap.size w w' ∧
 (splitE bs≠0→e=.returned (.tuple #[.int .i64 0,.slice none 0 0,.int .i64 (splitE bs)])) ∧
 (splitE bs=0→Sl.openB key (nmN bs next) (hdN bs) (slN bs)=false→e=.returned (.tuple #[.int .i64 0,.slice none 0 0,.int .i64 4])) ∧
 (splitE bs=0→Sl.openB key (nmN bs next) (hdN bs) (slN bs)=true→((readN (bdN key next bs).length ⟨bdN key next bs,0⟩).2.e≠0∨(readN (bdN key next bs).length ⟨bdN key next bs,0⟩).1=[])→e=.returned (.tuple #[.int .i64 (nmN bs next),.slice none 0 0,.int .i64 11])) ∧
 (splitE bs=0→Sl.openB key (nmN bs next) (hdN bs) (slN bs)=true→(readN (bdN key next bs).length ⟨bdN key next bs,0⟩).2.e=0→(readN (bdN key next bs).length ⟨bdN key next bs,0⟩).1≠[]→∃ A c,e=.returned (.tuple #[.int .i64 (nmN bs next),.slice A (readN (bdN key next bs).length ⟨bdN key next bs,0⟩).1.length c,.int .i64 0])∧FrsOwn w' w.heap.size (.slice A (readN (bdN key next bs).length ⟨bdN key next bs,0⟩).1.length c) (readN (bdN key next bs).length ⟨bdN key next bs,0⟩).1)
theorem cons_of_len (l:List Nat) (n:Nat) (h:l.length=n) (hn:0<n):∃ a r,l=a :: r:=by
 cases l with
 | nil=>simp at h;omega
 | cons a r=>exact ⟨a,r,rfl⟩
theorem pkRead_any (key:Nat) (next:Int) (bs:List Nat) (A:Option Addr) (c:Nat) (w:World) (hx:Rd w w.heap.size A bs.length (bv bs)) (hb:∀ z ∈ bs,z<256) (hc:bs.length≤c) (hm:bs.length≤1000000) (hk:key<2 ^ 64) :
  Calls Tryd.prog 14 #[.int .u64 (key:Int),.int .i64 next,.slice A bs.length c] w (RdP key next bs w):=by
 have HSP:=Lib.hid (split_any bs w.heap.size A c w hx hc (by omega))
 have HK:=Lib.hid hk
 have HBS:=Lib.hid hb
 by_cases hE:splitE bs=0
 ·have HR:Hid (∀ e w',Below w.heap.size w w' →
    (Sl.openB key (nmN bs next) (hdN bs) (slN bs)=false→e=.returned (.tuple #[.int .i64 0,.slice none 0 0,.int .i64 4])) →
    (Sl.openB key (nmN bs next) (hdN bs) (slN bs)=true→((readN (bdN key next bs).length ⟨bdN key next bs,0⟩).2.e≠0∨(readN (bdN key next bs).length ⟨bdN key next bs,0⟩).1=[])→e=.returned (.tuple #[.int .i64 (nmN bs next),.slice none 0 0,.int .i64 11])) →
    (Sl.openB key (nmN bs next) (hdN bs) (slN bs)=true→(readN (bdN key next bs).length ⟨bdN key next bs,0⟩).2.e=0→(readN (bdN key next bs).length ⟨bdN key next bs,0⟩).1≠[]→∃ A c,e=.returned (.tuple #[.int .i64 (nmN bs next),.slice A (readN (bdN key next bs).length ⟨bdN key next bs,0⟩).1.length c,.int .i64 0])∧FrsOwn w' w.heap.size (.slice A (readN (bdN key next bs).length ⟨bdN key next bs,0⟩).1.length c) (readN (bdN key next bs).length ⟨bdN key next bs,0⟩).1) →
    RdP key next bs w e w'):=fun e w' h1 h2 h3 h4=>⟨h1,fun h=>absurd hE h,fun _=>h2,fun _=>h3,fun _=>h4⟩
  have hm':=hm
  go_enter Tryd.func14,Tryd.ntmps14
  go_wp2_with fail
  refine HSP.out.mono ?_
  rintro e w1 ⟨hbw,_,h2⟩
  obtain ⟨n,A',hn,n2,n5,n8,rfl,hr1,hr2⟩:=h2 hE
  have HB1:=Lib.hid hbw
  have hdl:(hdN bs).length=n:=by unfold hdN;rw [← hn,List.length_take];omega
  have hsl:(slN bs).length=bs.length - n:=by unfold slN;rw [← hn,List.length_drop]
  have hhd:bs.take n=hdN bs:=by unfold hdN;rw [← hn]
  have hss:bs.drop n=slN bs:=by unfold slN;rw [← hn]
  rw [hhd] at hr1
  rw [hss] at hr2
  have bh:∀ z ∈ hdN bs,z<256:=fun z hz=>by unfold hdN at hz;exact hb z (List.mem_of_mem_take hz)
  have bsl:∀ z ∈ slN bs,z<256:=fun z hz=>by unfold slN at hz;exact hb z (List.mem_of_mem_drop hz)
  unfold bdN at HR
  unfold nmN at HR
  obtain ⟨hd,hhde⟩:∃ x,hdN bs=x:=⟨_,rfl⟩
  obtain ⟨sl,hsle⟩:∃ x,slN bs=x:=⟨_,rfl⟩
  rw [hhde] at hr1 hdl bh HR
  rw [hsle] at hr2 hsl bsl HR
  obtain ⟨N,hN⟩:∃ N,bs.length - n=N:=⟨_,rfl⟩
  rw [hN] at hr2 hsl ⊢
  have hN8:8≤N:=by omega
  have hNm:N≤1000000:=by omega
  have hNc:N≤c - n:=by omega
  have hnc:n≤c:=by omega
  clear hhd hss hhde hsle hn HSP h2 hE hN
  obtain ⟨h0,ds,rfl⟩:=cons_of_len hd n hdl (by omega)
  simp only [List.length_cons] at hdl
  have HNO:=Lib.hid (numberOf_any h0 ds next w.heap.size A c w1 (by rw [hdl];exact hr1.below HB1.out (Nat.le_refl _)) (fun z hz=>bh z (by simp [hz])) (by omega) (by omega) (by omega))
  rw [hdl] at HNO
  simp only [List.drop_succ_cons,List.drop_zero] at HR
  obtain ⟨num,hnum⟩:∃ x,Pn.backF (valN ds:Int) (ds.length:Int) next=x:=⟨_,rfl⟩
  rw [hnum] at HNO HR
  have HP1:Hid (Sl.IsPart w1 w1.heap.size (.slice A n c) (h0 :: ds)):=⟨A,c,by simp [hdl],by rw [show (h0 :: ds).length=n by simp [hdl]];exact (hr1.below HB1.out (Nat.le_refl _)).more HB1.out.size,by simp;omega,by simp;omega,bh⟩
  have HP2:Hid (Sl.IsPart w1 w1.heap.size (.slice A' N (c - n)) sl):=⟨A',c - n,by rw [hsl],by rw [hsl];exact (hr2.below HB1.out (Nat.le_refl _)).more HB1.out.size,by omega,by omega,bsl⟩
  have HOP:=Lib.hid (Sl.open_long key num (h0 :: ds) sl _ _ w1.heap.size w1 HK.out HP1.out HP2.out (Nat.le_refl _) (N - 8) (by omega))
  have hml:=Sl.maskN_len (Sl.stpN key (Sl.unN num)) (sl.take (N - 8))
  have hmt:=Sl.maskN_lt (Sl.stpN key (Sl.unN num)) (sl.take (N - 8)) (fun z hz=>bsl z (List.mem_of_mem_take hz))
  rw [List.length_take,hsl,Nat.min_eq_left (by omega)] at hml
  rw [hsl] at HR
  obtain ⟨body,hbody⟩:∃ x,Sl.maskN (Sl.stpN key (Sl.unN num)) (sl.take (N - 8))=x:=⟨_,rfl⟩
  rw [hbody] at HOP hml hmt HR
  obtain ⟨ok,hok⟩:∃ x,Sl.openB key num (h0 :: ds) sl=x:=⟨_,rfl⟩
  rw [hok] at HOP HR
  have HBT:=Lib.hid hmt
  have HBL:=Lib.hid hml
  clear hnum hbody hok hr1 hr2 bh bsl hmt hml HP1 HP2 hsl hdl HBS hb hx
  go_wp2_with fail
  refine HNO.out.mono ?_;rintro e w' ⟨rfl,rfl⟩
  go_wp2_with fail
  refine HOP.out.mono ?_
  rintro e w2 ⟨v2,rfl,ho1,ho2,hb2⟩
  have HB2:Hid (Below w.heap.size w w2):=HB1.out.trans (hb2.mono HB1.out.size)
  cases ok
  ·have hv:=ho2 rfl
   subst hv
   clear ho1 ho2 hb2
   go_wp2_with fail
   go_ret3
   exact HR.out _ _ HB2.out (fun _=>rfl) (fun h=>by cases h) (fun h=>by cases h)
  ·have hown:=ho1 rfl
   obtain ⟨Ab,cb,rfl,hbc,_,_,hrb⟩:=own_form hown
   rw [Nat.mul_one] at hrb
   have HRE:=Lib.hid (read_ok body Ab cb w2 (by rw [HBL.out];exact hrb) HBT.out (by rw [HBL.out];exact hbc) (by rw [HBL.out];omega))
   obtain ⟨y,hy⟩:∃ y,readN body.length ⟨body,0⟩=y:=⟨_,rfl⟩
   rw [hy] at HRE HR
   rw [HBL.out] at HRE
   clear ho1 ho2 hb2 hown hrb hy
   go_wp2_with fail
   refine HRE.out.mono ?_
   rintro e w3 ⟨h1,h2,hb3⟩
   have HB3:Hid (Below w.heap.size w w3):=HB2.out.trans (hb3.mono HB2.out.size)
   by_cases hye:y.2.e=0
   ·obtain ⟨Ag,cg,rfl,hog⟩:=h1 hye
    have HOG:Hid (FrsOwn w3 w.heap.size (.slice Ag y.1.length cg) y.1):=by obtain ⟨cs,q1,q2⟩:=hog;exact ⟨cs,own_base q1 HB2.out.size,q2⟩
    clear h1 h2 hb3 hog
    by_cases hy0:y.1=[]
    ·have hy0':y.1.length=0:=by rw [hy0];rfl
     rw [hy0']
     go_wp2_with fail
     go_ret3
     exact HR.out _ _ HB3.out (fun h=>by cases h) (fun _ _=>rfl) (fun _ _ h=>absurd hy0 h)
    ·have hlp:0<y.1.length:=List.length_pos_iff.2 hy0
     obtain ⟨L,hL⟩:∃ L,Hid (y.1.length=L):=⟨_,rfl⟩
     have hlp2:¬ (L:Int)=0:=by rw [← hL.out];omega
     rw [hL.out] at HR HOG ⊢
     clear hlp
     go_wp2_with fail
     go_ret3
     exact HR.out _ _ HB3.out (fun h=>by cases h) (fun _ h=>by rcases h with h | h;exact absurd hye h;exact absurd h hy0) (fun _ _ _=>⟨Ag,cg,rfl,HOG.out⟩)
   ·have he:=h2 hye
    subst he
    clear h1 h2 hb3
    obtain ⟨er,her⟩:∃ x,Hid (y.2.e=x):=⟨_,rfl⟩
    rw [her.out] at hye ⊢
    go_wp2_with fail
    go_ret3
    exact HR.out _ _ HB3.out (fun h=>by cases h) (fun _ _=>rfl) (fun _ h=>absurd (her.out.symm.trans h) hye)
 ·have HR:Hid (∀ e w',Below w.heap.size w w'→e=.returned (.tuple #[.int .i64 0,.slice none 0 0,.int .i64 (splitE bs)])→RdP key next bs w e w'):=fun e w' h1 h2=>⟨h1,fun _=>h2,fun h=>absurd h hE,fun h=>absurd h hE,fun h=>absurd h hE⟩
  unfold SplitP at HSP
  obtain ⟨er,her⟩:∃ x,splitE bs=x:=⟨_,rfl⟩
  rw [her] at HSP HR hE
  clear her hx hb
  go_enter Tryd.func14,Tryd.ntmps14
  go_wp2_with fail
  refine HSP.out.mono ?_
  rintro e w1 ⟨hbw,h1,_⟩
  have he:=h1 hE
  subst he
  have HB1:=Lib.hid hbw
  clear h1 hbw
  go_wp2_with fail
  go_ret3
  exact HR.out _ _ HB1.out rfl
theorem getN_app_left (a b:List Nat) (j:Nat) (h:j<a.length):(a ++ b).getD j 0=a.getD j 0:=by
 simp [List.getD,List.getElem?_append_left h]
theorem pk_split (key:Nat) (num acked:Int) (body:List Nat):splitE (packN key num acked body)=0∧hdN (packN key num acked body)=headN num (kN num acked)∧slN (packN key num acked body)=Sl.closeF key num (headN num (kN num acked)) body:=by
 obtain ⟨k1,k4⟩:=kN_in num acked
 have hl:=packN_len key num acked body
 have hhl:=headN_len num (kN num acked)
 have h0:(packN key num acked body).getD 0 0=63+kN num acked:=by
  unfold packN
  rw [getN_app_left _ _ _ (by omega)]
  rfl
 refine ⟨?_,?_,?_⟩
 ·unfold splitE
  rw [h0,if_neg (by omega),if_neg (by omega),if_neg (by omega)]
 ·unfold hdN
  rw [h0]
  unfold packN
  rw [show 63+kN num acked - 62=(headN num (kN num acked)).length by omega,List.take_left]
 ·unfold slN
  rw [h0]
  unfold packN
  rw [show 63+kN num acked - 62=(headN num (kN num acked)).length by omega,List.drop_left]
theorem nm_head (bs:List Nat) (num:Int) (k:Nat) (next:Int) (hk1:1≤k) (hk:k≤4) (h:hdN bs=headN num k) (hb:Pn.backF (Pn.cutF num (k:Int)) (k:Int) next=num):nmN bs next=num:=by
 unfold nmN
 rw [h]
 show Pn.backF (valN (digs (cutN num k) k k):Int) ((digs (cutN num k) k k).length:Int) next=num
 rw [digs_len,valN_digs _ _ hk (cutN_lt num k hk1 hk),← cutN_eq]
 exact hb
theorem pkRead_laid (key:Nat) (num acked next:Int) (fs:List Fr) (A:Option Addr) (c:Nat) (w:World) (hok:∀ f ∈ fs,OkF f) (hk:key<2 ^ 64) (hbk:Pn.backF (Pn.cutF num (kN num acked:Int)) (kN num acked:Int) next=num)
  (hx:Rd w w.heap.size A (kN num acked+9+(layF fs).length) (bv (packN key num acked (layF fs)))) (hc:kN num acked+9+(layF fs).length≤c) (hm:(layF fs).length≤1000) :
  Calls Tryd.prog 14 #[.int .u64 (key:Int),.int .i64 next,.slice A (kN num acked+9+(layF fs).length) c] w fun e w'=>Below w.heap.size w w' ∧
   (fs=[]→e=.returned (.tuple #[.int .i64 num,.slice none 0 0,.int .i64 11])) ∧
   (fs≠[]→∃ A c,e=.returned (.tuple #[.int .i64 num,.slice A fs.length c,.int .i64 0])∧FrsOwn w' w.heap.size (.slice A fs.length c) (fs.map bare)):=by
 obtain ⟨k1,k4⟩:=kN_in num acked
 obtain ⟨s1,s2,s3⟩:=pk_split key num acked (layF fs)
 have hbl:∀ x ∈ layF fs,x<256:=fun x hx=>by
  obtain ⟨f,hf,hx⟩:=List.mem_flatMap.1 hx
  exact encF_lt (hok f hf) x hx
 have hll:=packN_len key num acked (layF fs)
 have hlt:∀ z ∈ packN key num acked (layF fs),z<256:=fun z hz=>by
  unfold packN at hz
  rcases List.mem_append.1 hz with h | h
  ·exact headN_lt num _ k4 z h
  ·exact Sl.closeF_lt key num _ _ hbl z h
 have hnm:=nm_head _ num _ next k1 k4 s2 hbk
 have hR:=pkRead_any key next (packN key num acked (layF fs)) A c w (by rw [hll];exact hx) hlt (by omega) (by omega) hk
 rw [hll] at hR
 have hop:=Sl.openB_close key key num num (headN num (kN num acked)) (layF fs) (headN_lt num _ k4) hbl (by rw [headN_len];omega) (by omega)
 rw [decide_eq_true rfl] at hop
 have hbd:bdN key next (packN key num acked (layF fs))=layF fs:=by
  unfold bdN
  rw [hnm,s3,Sl.closeF_len,Nat.add_sub_cancel]
  have e2:(Sl.closeF key num (headN num (kN num acked)) (layF fs)).take (layF fs).length=Sl.maskN (Sl.stpN key (Sl.unN num)) (layF fs):=by
   unfold Sl.closeF
   have:=Sl.maskN_len (Sl.stpN key (Sl.unN num)) (layF fs)
   conv=>lhs;rw [← this]
   exact List.take_left
  rw [e2,Sl.mask_twice]
 refine hR.mono ?_
 rintro e w' ⟨h1,_,_,h4,h5⟩
 rw [hnm,s2,s3,hbd,read_enc fs _ hok (Nat.le_refl _)] at h4 h5
 refine ⟨h1,fun h=>?_,fun h=>?_⟩
 ·exact h4 s1 hop (.inr (by rw [h];rfl))
 ·have:=h5 s1 hop rfl (by simpa using h)
  simpa only [List.length_map] using this
end Go.Proofs.YtccljifichaieaaDoor
