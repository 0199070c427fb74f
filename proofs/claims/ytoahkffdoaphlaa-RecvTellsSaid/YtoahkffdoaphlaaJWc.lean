/- Joined texts. Conditions: as each theorem lists them. -/
import Derived.Test.YtoahkffdoaphlaaJWb
import Derived.Deep.RegionHeld
set_option linter.unusedSimpArgs false
set_option linter.unusedVariables false
set_option maxRecDepth 100000
set_option maxHeartbeats 80000000
namespace Go.Proofs.Ytoahkffdoaphlaa.Se
open Go Go.RowKit Go.Proofs.Ytoahkffdoaphlaa Go.Proofs.Ytoahkffdoaphlaa.Sp
section
variable {w w':World} {p:Nat} {F:List Nat} {v3 v4 v5:Value} {s:St}
theorem size_st (h:StIn w p F v3 v4 v5 s) :
  Calls Try.prog 29 #[.pointer (some ⟨p,0,none⟩)] w fun e w'=>e=.returned (.int .i64 (s.bs.length:Int))∧w'=w:=by
 obtain ⟨A,c,e3,_⟩:=h.form
 subst e3
 obtain ⟨_,_,_,hc3,_⟩:=h.cells
 clear h
 go_enter Try.func29,Try.ntmps29
 go_wp2
 go_ret
 exact ⟨rfl,rfl⟩
theorem sent_st (h:StIn w p F v3 v4 v5 s) (hu:s.u≤(s.bs.length:Int)) :
  Calls Try.prog 68 #[.pointer (some ⟨p,0,none⟩)] w fun e w'=>e=.returned (.int .i64 s.u)∧∃ q,w'=w.drewN q:=by
 have HS:=Lib.hid (fun q=>size_st (h.drewN q))
 obtain ⟨_,hc1,_⟩:=h.cells
 obtain ⟨u,hus⟩:∃ u,s.u=u:=⟨_,rfl⟩
 obtain ⟨n,hn⟩:∃ n:Int,(s.bs.length:Int)=n:=⟨_,rfl⟩
 rw [hus] at hc1 hu ⊢
 rw [hn] at hu HS
 clear h hn hus
 have key:u=n∨u<n:=by omega
 go_enter Try.func68,Try.ntmps68
 go_wp2_with fail
 rcases key with rfl | hlt
 ·go_quiet ((go_at_call 29;exact Calls.quiet_of_same (HS.out _)))
  go_wp2_with fail
  go_ret
  exact ⟨ret_int (by omega),_,rfl⟩
 ·go_quiet ((go_at_call 29;exact Calls.quiet_of_same (HS.out _)))
  go_wp2_with fail
  go_ret
  exact ⟨ret_int (by omega),_,rfl⟩
theorem due_news (b j:Nat) (n:Int) (w:World) (hc:w.cell? ⟨b,j,none⟩=some (.int .i64 n)) :
  Calls Try.prog 53 #[.pointer (some ⟨b,j,none⟩)] w fun e w'=>e=.returned (.bool (dueN n))∧w'=w:=by
 have HD:Hid (dueN n=decide (n=0∨n=2)):=rfl
 obtain ⟨d,hd⟩:∃ d,dueN n=d:=⟨_,rfl⟩
 rw [hd] at HD ⊢
 clear hd
 by_cases h0:n=0
 ·subst h0
  obtain rfl:d=true:=by rw [HD.out];rfl
  go_enter Try.func53,Try.ntmps53
  go_wp2
  go_ret
  exact ⟨rfl,rfl⟩
 ·have hz:(n == 0)=false:=by simpa using h0
  by_cases h2:n=2
  ·subst h2
   obtain rfl:d=true:=by rw [HD.out];rfl
   go_enter Try.func53,Try.ntmps53
   go_wp2
   go_ret
   exact ⟨rfl,rfl⟩
  ·have hz2:(n == 2)=false:=by simpa using h2
   obtain rfl:d=false:=by rw [HD.out];simp;exact ⟨h0,h2⟩
   clear h0 h2
   go_enter Try.func53,Try.ntmps53
   go_wp2
   go_ret
   exact ⟨rfl,rfl⟩
theorem tell_news (b j:Nat) (n:Int) (w:World) (hc:w.cell? ⟨b,j,none⟩=some (.int .i64 n)) (hf:w.frozen? ⟨b,j,none⟩=false) :
  Calls Try.prog 54 #[.pointer (some ⟨b,j,none⟩)] w fun e w'=>e=.returned (.tuple #[])∧(dueN n=true∧w'=w.setCell ⟨b,j,none⟩ (.int .i64 1)∨dueN n=false∧w'=w):=by
 have HD:=Lib.hid (due_news b j n w hc)
 obtain ⟨d,hd⟩:∃ d,dueN n=d:=⟨_,rfl⟩
 rw [hd] at HD ⊢
 clear hd
 go_enter Try.func54,Try.ntmps54
 go_wp2_with fail
 refine HD.out.mono ?_;rintro e w' ⟨rfl,rfl⟩
 cases d
 ·go_wp2_with fail
  go_end0
  first | exact ⟨rfl,.inr ⟨rfl,rfl⟩⟩ | exact ⟨rfl,rfl⟩ | exact ⟨trivial,rfl⟩ | simp
 ·go_wp2_with fail
  go_end0
  first | exact ⟨rfl,.inl ⟨rfl,rfl⟩⟩ | exact ⟨rfl,rfl⟩ | exact ⟨trivial,rfl⟩ | simp
theorem come_news (b j:Nat) (n:Int) (w:World) (hc:w.cell? ⟨b,j,none⟩=some (.int .i64 n)) (hf:w.frozen? ⟨b,j,none⟩=false) :
  Calls Try.prog 64 #[.pointer (some ⟨b,j,none⟩)] w fun e w'=>e=.returned (.tuple #[])∧(n≠0∧w'=w.setCell ⟨b,j,none⟩ (.int .i64 3)∨n=0∧w'=w):=by
 by_cases h0:n=0
 ·subst h0
  go_enter Try.func64,Try.ntmps64
  go_wp2_with fail
  go_end0
  first | exact ⟨rfl,.inr ⟨rfl,rfl⟩⟩ | exact ⟨rfl,rfl⟩ | exact ⟨trivial,rfl⟩ | simp
 ·have hz:(n == 0)=false:=by simpa using h0
  have hz2:(n != 0)=true:=by simpa using h0
  have HZ:=Lib.hid h0
  clear h0
  go_enter Try.func64,Try.ntmps64
  go_wp2_with fail
  go_end0
  exact ⟨rfl,.inl ⟨HZ.out,rfl⟩⟩
theorem lose_news (b j:Nat) (n:Int) (w:World) (hc:w.cell? ⟨b,j,none⟩=some (.int .i64 n)) (hf:w.frozen? ⟨b,j,none⟩=false) :
  Calls Try.prog 59 #[.pointer (some ⟨b,j,none⟩)] w fun e w'=>e=.returned (.tuple #[])∧(n=1∧w'=w.setCell ⟨b,j,none⟩ (.int .i64 2)∨n≠1∧w'=w):=by
 by_cases h0:n=1
 ·subst h0
  go_enter Try.func59,Try.ntmps59
  go_wp2_with fail
  go_end0
  first | exact ⟨rfl,.inl ⟨rfl,rfl⟩⟩ | exact ⟨rfl,rfl⟩ | exact ⟨trivial,rfl⟩ | simp
 ·have hz:(n == 1)=false:=by simpa using h0
  have HZ:=Lib.hid h0
  clear h0
  go_enter Try.func59,Try.ntmps59
  go_wp2_with fail
  go_end0
  exact ⟨rfl,.inr ⟨HZ.out,rfl⟩⟩
theorem fin_news (h:StIn w p F v3 v4 v5 s) (n:Int):StIn (w.setCell ⟨p,7,none⟩ (.int .i64 n)) p F v3 v4 v5 ⟨s.l,s.u,s.id,s.bs,s.lost,s.came,s.fd,n,s.rs,s.code,s.sure,s.br⟩:=h.put _ 7 _ rfl rfl rfl rfl
theorem br_news (h:StIn w p F v3 v4 v5 s) (n:Int):StIn (w.setCell ⟨p,11,none⟩ (.int .i64 n)) p F v3 v4 v5 ⟨s.l,s.u,s.id,s.bs,s.lost,s.came,s.fd,s.fin,s.rs,s.code,s.sure,n⟩:=h.put _ 11 _ rfl rfl rfl rfl
theorem kept_put (w:World) {p:Nat} {F:List Nat} (hp:p ∈ F) (j:Nat) (u:Value):Kept F w (w.setCell ⟨p,j,none⟩ u):=⟨rfl,rfl,rfl,by simp [World.setCell],fun k _ hn=>Below.heap_setCell _ _ _ _ (fun e=>hn (e ▸ hp))⟩
theorem tell_fin (h:StIn w p F v3 v4 v5 s) :
  Calls Try.prog 54 #[.pointer (some ⟨p,7,none⟩)] w fun e w'=>e=.returned (.tuple #[])∧StIn w' p F v3 v4 v5 ⟨s.l,s.u,s.id,s.bs,s.lost,s.came,s.fd,tellN s.fin,s.rs,s.code,s.sure,s.br⟩∧Kept F w w':=by
 obtain ⟨_,_,_,_,_,hc7,_⟩:=h.cells
 refine (tell_news p 7 s.fin w hc7 (h.free 7)).mono ?_
 rintro e w' ⟨rfl,⟨hd,rfl⟩ | ⟨hd,rfl⟩⟩
 ·have:tellN s.fin=1:=by unfold dueN at hd;unfold tellN;rw [if_pos (of_decide_eq_true hd)]
  rw [this];exact ⟨rfl,fin_news h 1,kept_put w h.pF _ _⟩
 ·have:tellN s.fin=s.fin:=by unfold dueN at hd;unfold tellN;rw [if_neg (of_decide_eq_false hd)]
  rw [this];exact ⟨rfl,h,Kept.refl _ _⟩
theorem tell_br (h:StIn w p F v3 v4 v5 s) :
  Calls Try.prog 54 #[.pointer (some ⟨p,11,none⟩)] w fun e w'=>e=.returned (.tuple #[])∧StIn w' p F v3 v4 v5 ⟨s.l,s.u,s.id,s.bs,s.lost,s.came,s.fd,s.fin,s.rs,s.code,s.sure,tellN s.br⟩∧Kept F w w':=by
 obtain ⟨_,_,_,_,_,_,_,_,_,hc11⟩:=h.cells
 refine (tell_news p 11 s.br w hc11 (h.free 11)).mono ?_
 rintro e w' ⟨rfl,⟨hd,rfl⟩ | ⟨hd,rfl⟩⟩
 ·have:tellN s.br=1:=by unfold dueN at hd;unfold tellN;rw [if_pos (of_decide_eq_true hd)]
  rw [this];exact ⟨rfl,br_news h 1,kept_put w h.pF _ _⟩
 ·have:tellN s.br=s.br:=by unfold dueN at hd;unfold tellN;rw [if_neg (of_decide_eq_false hd)]
  rw [this];exact ⟨rfl,h,Kept.refl _ _⟩
theorem come_fin (h:StIn w p F v3 v4 v5 s) :
  Calls Try.prog 64 #[.pointer (some ⟨p,7,none⟩)] w fun e w'=>e=.returned (.tuple #[])∧StIn w' p F v3 v4 v5 ⟨s.l,s.u,s.id,s.bs,s.lost,s.came,s.fd,comeN s.fin,s.rs,s.code,s.sure,s.br⟩∧Kept F w w':=by
 obtain ⟨_,_,_,_,_,hc7,_⟩:=h.cells
 refine (come_news p 7 s.fin w hc7 (h.free 7)).mono ?_
 rintro e w' ⟨rfl,⟨hd,rfl⟩ | ⟨hd,rfl⟩⟩
 ·have:comeN s.fin=3:=by unfold comeN;rw [if_neg hd]
  rw [this];exact ⟨rfl,fin_news h 3,kept_put w h.pF _ _⟩
 ·have:comeN s.fin=s.fin:=by unfold comeN;rw [if_pos hd,hd]
  rw [this];exact ⟨rfl,h,Kept.refl _ _⟩
theorem come_br (h:StIn w p F v3 v4 v5 s) :
  Calls Try.prog 64 #[.pointer (some ⟨p,11,none⟩)] w fun e w'=>e=.returned (.tuple #[])∧StIn w' p F v3 v4 v5 ⟨s.l,s.u,s.id,s.bs,s.lost,s.came,s.fd,s.fin,s.rs,s.code,s.sure,comeN s.br⟩∧Kept F w w':=by
 obtain ⟨_,_,_,_,_,_,_,_,_,hc11⟩:=h.cells
 refine (come_news p 11 s.br w hc11 (h.free 11)).mono ?_
 rintro e w' ⟨rfl,⟨hd,rfl⟩ | ⟨hd,rfl⟩⟩
 ·have:comeN s.br=3:=by unfold comeN;rw [if_neg hd]
  rw [this];exact ⟨rfl,br_news h 3,kept_put w h.pF _ _⟩
 ·have:comeN s.br=s.br:=by unfold comeN;rw [if_pos hd,hd]
  rw [this];exact ⟨rfl,h,Kept.refl _ _⟩
theorem lose_fin (h:StIn w p F v3 v4 v5 s) :
  Calls Try.prog 59 #[.pointer (some ⟨p,7,none⟩)] w fun e w'=>e=.returned (.tuple #[])∧StIn w' p F v3 v4 v5 ⟨s.l,s.u,s.id,s.bs,s.lost,s.came,s.fd,loseN s.fin,s.rs,s.code,s.sure,s.br⟩∧Kept F w w':=by
 obtain ⟨_,_,_,_,_,hc7,_⟩:=h.cells
 refine (lose_news p 7 s.fin w hc7 (h.free 7)).mono ?_
 rintro e w' ⟨rfl,⟨hd,rfl⟩ | ⟨hd,rfl⟩⟩
 ·have:loseN s.fin=2:=by unfold loseN;rw [if_pos hd]
  rw [this];exact ⟨rfl,fin_news h 2,kept_put w h.pF _ _⟩
 ·have:loseN s.fin=s.fin:=by unfold loseN;rw [if_neg hd]
  rw [this];exact ⟨rfl,h,Kept.refl _ _⟩
theorem lose_br (h:StIn w p F v3 v4 v5 s) :
  Calls Try.prog 59 #[.pointer (some ⟨p,11,none⟩)] w fun e w'=>e=.returned (.tuple #[])∧StIn w' p F v3 v4 v5 ⟨s.l,s.u,s.id,s.bs,s.lost,s.came,s.fd,s.fin,s.rs,s.code,s.sure,loseN s.br⟩∧Kept F w w':=by
 obtain ⟨_,_,_,_,_,_,_,_,_,hc11⟩:=h.cells
 refine (lose_news p 11 s.br w hc11 (h.free 11)).mono ?_
 rintro e w' ⟨rfl,⟨hd,rfl⟩ | ⟨hd,rfl⟩⟩
 ·have:loseN s.br=2:=by unfold loseN;rw [if_pos hd]
  rw [this];exact ⟨rfl,br_news h 2,kept_put w h.pF _ _⟩
 ·have:loseN s.br=s.br:=by unfold loseN;rw [if_neg hd]
  rw [this];exact ⟨rfl,h,Kept.refl _ _⟩
theorem new_st (w:World) (id:Int) :
  Calls Try.prog 6 #[.int .i64 id] w fun e w'=>∃ p F v3 v4 v5,e=.returned (.pointer (some ⟨p,0,none⟩))∧StIn w' p F v3 v4 v5 (newS id)∧(∀ k ∈ F,w.heap.size≤k)∧Below w.heap.size w w':=by
 go_enter Try.func6,Try.ntmps6
 go_wp2
 go_ret
 refine ⟨w.heap.size,[w.heap.size],.slice none 0 0,.slice none 0 0,.slice none 0 0,rfl,⟨heap_alloc_new w _,?_,by simp,own_nil _ _ _ _,⟨ok_nil,none,0,rfl,Nat.le_refl _,fun _=>.inl ⟨rfl,rfl⟩,Rd.nil _ _ _,fun a ha=>by cases ha⟩,⟨ok_nil,none,0,rfl,Nat.le_refl _,fun _=>.inl ⟨rfl,rfl⟩,Rd.nil _ _ _,fun a ha=>by cases ha⟩,fun k hk=>by simp [fp] at hk,fun k hk=>by simp [fe] at hk,fun k hk=>by simp [fe] at hk⟩,fun k hk=>by simp at hk;omega,(Below.refl _ _).alloc (Nat.le_refl _) _⟩
 intro k hk
 simp at hk
 simp [hk]
theorem finish_st (h:StIn w p F v3 v4 v5 s) :
  Calls Try.prog 12 #[.pointer (some ⟨p,0,none⟩)] w fun e w'=>e=.returned (.int .i64 (finishS s).1)∧StTo w w' p F (finishS s).2:=by
 obtain ⟨_,_,_,_,hc6,_,hc8,_⟩:=h.cells
 have hf:=h.free 6
 have H:=Lib.hid h
 have HN:=Lib.hid (h.putTo ⟨s.l,s.u,s.id,s.bs,s.lost,s.came,true,s.fin,s.rs,s.code,s.sure,s.br⟩ 6 (.bool true) rfl rfl rfl rfl)
 have HH:Hid (StTo w w p F s):=h.here (Below.refl _ _)
 clear h
 cases hfd:s.fd
 ·cases hrs:s.rs
  ·rw [hfd] at hc6
   rw [hrs] at hc8
   have e:finishS s=(0,⟨s.l,s.u,s.id,s.bs,s.lost,s.came,true,s.fin,s.rs,s.code,s.sure,s.br⟩):=by unfold finishS;rw [if_neg (by rw [hfd,hrs];simp)]
   rw [e]
   clear e hfd hrs
   go_enter Try.func12,Try.ntmps12
   go_wp2
   go_ret
   exact ⟨rfl,HN.out⟩
  ·rw [hfd] at hc6
   rw [hrs] at hc8
   have e:finishS s=(6,s):=by unfold finishS;rw [if_pos (.inr hrs)]
   rw [e]
   clear e hfd hrs
   go_enter Try.func12,Try.ntmps12
   go_wp2
   go_ret
   exact ⟨rfl,HH.out⟩
 ·rw [hfd] at hc6
  have e:finishS s=(6,s):=by unfold finishS;rw [if_pos (.inl hfd)]
  rw [e]
  clear e hfd
  go_enter Try.func12,Try.ntmps12
  go_wp2
  go_ret
  exact ⟨rfl,HH.out⟩
theorem write_st (h:StIn w p F v3 v4 v5 s) (hn:s.bs.length≤4000) (b:List Nat) (B:Nat) (A:Option Addr) (c:Nat) (hb:Rd w B A b.length (bv b)) (hm:b.length≤140737488355328) :
  Calls Try.prog 10 #[.pointer (some ⟨p,0,none⟩),.slice A b.length c] w fun e w'=>e=.returned (.int .i64 (writeS s b).1)∧StTo w w' p F (writeS s b).2:=by
 obtain ⟨_,_,_,hc3,hc6,_,hc8,_⟩:=h.cells
 have hf:=h.free 3
 have H:=Lib.hid h
 have HS:=Lib.hid (size_st h)
 have HH:Hid (StTo w w p F s):=h.here (Below.refl _ _)
 cases hfd:s.fd
 ·cases hrs:s.rs
  ·rw [hfd] at hc6
   rw [hrs] at hc8
   have hnI:(s.bs.length:Int)≤4000:=by omega
   by_cases hl:4000<s.bs.length+b.length
   ·have e:writeS s b=(9,s):=by unfold writeS;rw [if_neg (by rw [hfd,hrs];simp),if_pos hl]
    rw [e]
    have hlI:4000 - (s.bs.length:Int)<(b.length:Int):=by omega
    clear e hfd hrs h
    go_enter Try.func10,Try.ntmps10
    go_wp2_with (go_at_call 29;refine HS.out.mono ?_;rintro e w' ⟨rfl,rfl⟩)
    go_ret
    exact ⟨rfl,HH.out⟩
   ·have e:writeS s b=(0,⟨s.l,s.u,s.id,s.bs ++ b,s.lost,s.came,s.fd,s.fin,s.rs,s.code,s.sure,s.br⟩):=by unfold writeS;rw [if_neg (by rw [hfd,hrs];simp),if_neg hl]
    rw [e]
    have hlI:¬ 4000 - (s.bs.length:Int)<(b.length:Int):=by omega
    obtain ⟨i0,hi,hz0,hz1,hz2⟩:=info_parts infoB
    have HI:=Lib.hid (And.intro hi (And.intro hz0 (And.intro hz1 hz2)))
    have HB:Hid (Rd w B A (b.length * 1) (bv b)):=by rw [Nat.mul_one];exact hb
    have HL:Hid (s.bs.length+b.length≤maxLen∧(s.bs.length+b.length) * 1≤140737488355328):=⟨by unfold maxLen;omega,by omega⟩
    clear e hfd hrs h hb hi hz0 hz1 hz2 hl
    go_enter Try.func10,Try.ntmps10
    go_wp2_with fail
    refine HS.out.mono ?_;rintro e w' ⟨rfl,rfl⟩
    go_wp2_with (at_builtin;refine wpList_app_at _ rfl (.tmp 25) (.tmp 26) 30 rfl 0 5 i0 (.int .u8 0) 1 1 Try.underlying30 HI.out.1 HI.out.2.1 HI.out.2.2.1 HI.out.2.2.2 rfl (by decide) v3 s.bs.length (bv s.bs) rfl H.out.row B A b.length c (bv b) rfl HB.out (ones_bv _) HL.out.1 HL.out.2 (Nat.zero_le _) ?_)
    intro v1 w1 ho hg hn1
    rw [← bv_app,← List.length_append] at ho
    have HT:=Lib.hid (H.out.toBytes hg ho hn1)
    have hf1:w1.frozen? ⟨p,3,none⟩=false:=(World.frozen?_of_block (a:=⟨p,3,none⟩) (hg.block p (H.out.hF p H.out.pF) (fun e=>(H.out.f3 p (fp_own.2 e.symm)).2.1 rfl))).trans hf
    have hc1:w1.cell? ⟨p,3,none⟩=some v3:=(World.cell?_of_block (a:=⟨p,3,none⟩) (hg.block p (H.out.hF p H.out.pF) (fun e=>(H.out.f3 p (fp_own.2 e.symm)).2.1 rfl))).trans hc3
    obtain ⟨A1,c1,e1,_⟩:=own_form ho
    subst e1
    clear ho hg hn1
    go_wp2_with fail
    go_ret
    exact ⟨rfl,by have:=HT.out;rwa [List.length_append] at this⟩
  ·rw [hfd] at hc6
   rw [hrs] at hc8
   have e:writeS s b=(6,s):=by unfold writeS;rw [if_pos (.inr hrs)]
   rw [e]
   clear e hfd hrs h
   go_enter Try.func10,Try.ntmps10
   go_wp2_with fail
   go_ret
   exact ⟨rfl,HH.out⟩
 ·rw [hfd] at hc6
  have e:writeS s b=(6,s):=by unfold writeS;rw [if_pos (.inl hfd)]
  rw [e]
  clear e hfd h
  go_enter Try.func10,Try.ntmps10
  go_wp2_with fail
  go_ret
  exact ⟨rfl,HH.out⟩
end
end Go.Proofs.Ytoahkffdoaphlaa.Se
