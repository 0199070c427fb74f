/- Joined texts. Conditions: as each theorem lists them. -/
import Derived.Test.YtoahkffdoaphlaaJWc
import Derived.BigQuiet
import Derived.Deep.RegionHeld3
set_option linter.unusedSimpArgs false
set_option linter.unusedVariables false
set_option maxRecDepth 100000
set_option maxHeartbeats 80000000
namespace Go.Proofs.Ytoahkffdoaphlaa.Se
open Go Go.RowKit Go.Proofs.Ytoahkffdoaphlaa Go.Proofs.Ytoahkffdoaphlaa.Sp
def B0 (x y z a b c:Bool):Bool:=(x && y && z) || (a && b && c)
section
variable {w w':World} {p:Nat} {F:List Nat} {v3 v4 v5:Value} {s:St}
theorem done_st (h:StIn w p F v3 v4 v5 s) (hl:s.came.length≤1000000) :
  Calls Try.prog 27 #[.pointer (some ⟨p,0,none⟩)] w fun e w'=>e=.returned (.bool (doneS s))∧∃ q,w'=w.drewN q:=by
 have HS:=Lib.hid (fun q=>size_st (h.drewN q))
 have HA1:=Lib.hid (fun q=>came_all (h.drewN q) hl 0 (s.bs.length:Int))
 have HA2:=Lib.hid (fun q=>came_all (h.drewN q) hl 0 s.sure)
 obtain ⟨_,_,_,_,hc6,hc7,hc8,_,hc10,hc11⟩:=h.cells
 have HD:Hid (doneS s=B0 s.fd (decide (s.fin=3)) (allF s.came 0 (s.bs.length:Int)) s.rs (decide (s.br=3)) (allF s.came 0 s.sure)):=rfl
 obtain ⟨n,hn⟩:∃ n:Int,(s.bs.length:Int)=n:=⟨_,rfl⟩
 obtain ⟨fd,hfd⟩:∃ x,s.fd=x:=⟨_,rfl⟩
 obtain ⟨rs,hrs⟩:∃ x,s.rs=x:=⟨_,rfl⟩
 obtain ⟨fin,hfin⟩:∃ x,s.fin=x:=⟨_,rfl⟩
 obtain ⟨br,hbr⟩:∃ x,s.br=x:=⟨_,rfl⟩
 obtain ⟨sure,hsu⟩:∃ x,s.sure=x:=⟨_,rfl⟩
 obtain ⟨d,hd⟩:∃ x,doneS s=x:=⟨_,rfl⟩
 rw [hn] at HS HA1 HD
 rw [hsu] at HA2 hc10 HD
 rw [hfd] at hc6 HD
 rw [hrs] at hc8 HD
 rw [hfin] at hc7 HD
 rw [hbr] at hc11 HD
 rw [hd] at HD ⊢
 obtain ⟨a1,ha1⟩:∃ x,allF s.came 0 n=x:=⟨_,rfl⟩
 obtain ⟨a2,ha2⟩:∃ x,allF s.came 0 sure=x:=⟨_,rfl⟩
 rw [ha1] at HA1 HD
 rw [ha2] at HA2 HD
 clear h hn hfd hrs hfin hbr hsu hd ha1 ha2
 obtain ⟨f3,hf3⟩:∃ x,(fin == 3)=x:=⟨_,rfl⟩
 obtain ⟨b3,hb3⟩:∃ x,(br == 3)=x:=⟨_,rfl⟩
 have HF3:Hid (decide (fin=3)=f3):=by rw [← hf3];rfl
 have HB3:Hid (decide (br=3)=b3):=by rw [← hb3];rfl
 rw [HF3.out,HB3.out] at HD
 clear HF3 HB3
 cases fd
 ·cases rs
  ·obtain rfl:d=false:=by rw [HD.out];simp [B0]
   clear HD
   go_enter Try.func27,Try.ntmps27
   go_wp2_with fail
   go_quiet (first | (go_at_call 29;exact Calls.quiet_of_same (HS.out _)) | (go_at_call 75;with_reducible first | exact Calls.quiet_of (HA1.out _) | exact Calls.quiet_of (HA2.out _)))
   go_wp2_with fail
   go_ret
   exact ⟨rfl,_,rfl⟩
  ·cases b3
   ·obtain rfl:d=false:=by rw [HD.out];simp [B0]
    clear HD
    go_enter Try.func27,Try.ntmps27
    go_wp2_with fail
    go_quiet (first | (go_at_call 29;exact Calls.quiet_of_same (HS.out _)) | (go_at_call 75;with_reducible first | exact Calls.quiet_of (HA1.out _) | exact Calls.quiet_of (HA2.out _)))
    go_wp2_with fail
    go_ret
    exact ⟨rfl,_,rfl⟩
   ·cases a2
    ·obtain rfl:d=false:=by rw [HD.out];simp [B0]
     clear HD
     go_enter Try.func27,Try.ntmps27
     go_wp2_with fail
     go_quiet (first | (go_at_call 29;exact Calls.quiet_of_same (HS.out _)) | (go_at_call 75;with_reducible first | exact Calls.quiet_of (HA1.out _) | exact Calls.quiet_of (HA2.out _)))
     go_wp2_with fail
     go_ret
     exact ⟨rfl,_,rfl⟩
    ·obtain rfl:d=true:=by rw [HD.out];simp [B0]
     clear HD
     go_enter Try.func27,Try.ntmps27
     go_wp2_with fail
     go_quiet (first | (go_at_call 29;exact Calls.quiet_of_same (HS.out _)) | (go_at_call 75;with_reducible first | exact Calls.quiet_of (HA1.out _) | exact Calls.quiet_of (HA2.out _)))
     go_wp2_with fail
     go_ret
     exact ⟨rfl,_,rfl⟩
 ·cases f3
  ·cases rs
   ·obtain rfl:d=false:=by rw [HD.out];simp [B0]
    clear HD
    go_enter Try.func27,Try.ntmps27
    go_wp2_with fail
    go_quiet (first | (go_at_call 29;exact Calls.quiet_of_same (HS.out _)) | (go_at_call 75;with_reducible first | exact Calls.quiet_of (HA1.out _) | exact Calls.quiet_of (HA2.out _)))
    go_wp2_with fail
    go_ret
    exact ⟨rfl,_,rfl⟩
   ·cases b3
    ·obtain rfl:d=false:=by rw [HD.out];simp [B0]
     clear HD
     go_enter Try.func27,Try.ntmps27
     go_wp2_with fail
     go_quiet (first | (go_at_call 29;exact Calls.quiet_of_same (HS.out _)) | (go_at_call 75;with_reducible first | exact Calls.quiet_of (HA1.out _) | exact Calls.quiet_of (HA2.out _)))
     go_wp2_with fail
     go_ret
     exact ⟨rfl,_,rfl⟩
    ·cases a2
     ·obtain rfl:d=false:=by rw [HD.out];simp [B0]
      clear HD
      go_enter Try.func27,Try.ntmps27
      go_wp2_with fail
      go_quiet (first | (go_at_call 29;exact Calls.quiet_of_same (HS.out _)) | (go_at_call 75;with_reducible first | exact Calls.quiet_of (HA1.out _) | exact Calls.quiet_of (HA2.out _)))
      go_wp2_with fail
      go_ret
      exact ⟨rfl,_,rfl⟩
     ·obtain rfl:d=true:=by rw [HD.out];simp [B0]
      clear HD
      go_enter Try.func27,Try.ntmps27
      go_wp2_with fail
      go_quiet (first | (go_at_call 29;exact Calls.quiet_of_same (HS.out _)) | (go_at_call 75;with_reducible first | exact Calls.quiet_of (HA1.out _) | exact Calls.quiet_of (HA2.out _)))
      go_wp2_with fail
      go_ret
      exact ⟨rfl,_,rfl⟩
  ·cases a1
   ·cases rs
    ·obtain rfl:d=false:=by rw [HD.out];simp [B0]
     clear HD
     go_enter Try.func27,Try.ntmps27
     go_wp2_with fail
     go_quiet (first | (go_at_call 29;exact Calls.quiet_of_same (HS.out _)) | (go_at_call 75;with_reducible first | exact Calls.quiet_of (HA1.out _) | exact Calls.quiet_of (HA2.out _)))
     go_wp2_with fail
     go_ret
     exact ⟨rfl,_,rfl⟩
    ·cases b3
     ·obtain rfl:d=false:=by rw [HD.out];simp [B0]
      clear HD
      go_enter Try.func27,Try.ntmps27
      go_wp2_with fail
      go_quiet (first | (go_at_call 29;exact Calls.quiet_of_same (HS.out _)) | (go_at_call 75;with_reducible first | exact Calls.quiet_of (HA1.out _) | exact Calls.quiet_of (HA2.out _)))
      go_wp2_with fail
      go_ret
      exact ⟨rfl,_,rfl⟩
     ·cases a2
      ·obtain rfl:d=false:=by rw [HD.out];simp [B0]
       clear HD
       go_enter Try.func27,Try.ntmps27
       go_wp2_with fail
       go_quiet (first | (go_at_call 29;exact Calls.quiet_of_same (HS.out _)) | (go_at_call 75;with_reducible first | exact Calls.quiet_of (HA1.out _) | exact Calls.quiet_of (HA2.out _)))
       go_wp2_with fail
       go_ret
       exact ⟨rfl,_,rfl⟩
      ·obtain rfl:d=true:=by rw [HD.out];simp [B0]
       clear HD
       go_enter Try.func27,Try.ntmps27
       go_wp2_with fail
       go_quiet (first | (go_at_call 29;exact Calls.quiet_of_same (HS.out _)) | (go_at_call 75;with_reducible first | exact Calls.quiet_of (HA1.out _) | exact Calls.quiet_of (HA2.out _)))
       go_wp2_with fail
       go_ret
       exact ⟨rfl,_,rfl⟩
   ·obtain rfl:d=true:=by rw [HD.out];simp [B0]
    clear HD
    go_enter Try.func27,Try.ntmps27
    go_wp2_with fail
    go_quiet (first | (go_at_call 29;exact Calls.quiet_of_same (HS.out _)) | (go_at_call 75;with_reducible first | exact Calls.quiet_of (HA1.out _) | exact Calls.quiet_of (HA2.out _)))
    go_wp2_with fail
    go_ret
    exact ⟨rfl,_,rfl⟩
theorem reset_st (h:StIn w p F v3 v4 v5 s) (hl:s.came.length≤1000000) (code sure:Int) :
  Calls Try.prog 14 #[.pointer (some ⟨p,0,none⟩),.int .i64 code,.int .i64 sure] w fun e w'=>e=.returned (.int .i64 (resetS s code sure).1)∧StTo w w' p F (resetS s code sure).2:=by
 have H:=Lib.hid h
 have HS:=Lib.hid (size_st h)
 have HD:=Lib.hid (done_st h hl)
 have HH:Hid (∀ q,StTo w (w.drewN q) p F s):=fun q=>h.here ((Below.refl _ _).trans ⟨rfl,rfl,rfl,Nat.le_refl _,fun _ _=>rfl⟩)
 have HR:Hid (resetS s code sure=if code<0∨4611686018427387903<code∨sure<0∨(s.bs.length:Int)<sure then (1,s) else if doneS s=true∨(s.rs=true∧s.sure≤sure) then (6,s) else (0,⟨s.l,s.u,s.id,s.bs,s.lost,s.came,s.fd,s.fin,true,if s.rs=true then s.code else code,sure,0⟩)):=rfl
 obtain ⟨n,hn⟩:∃ n:Int,(s.bs.length:Int)=n:=⟨_,rfl⟩
 rw [hn] at HS HR
 obtain ⟨d,hd⟩:∃ x,doneS s=x:=⟨_,rfl⟩
 rw [hd] at HD HR
 clear hn hd
 obtain ⟨_,_,_,_,_,_,hc8,_,hc10,_⟩:=h.cells
 have hff:=h.free
 clear h
 by_cases h1:code<0
 ·have e:resetS s code sure=(1,s):=by rw [HR.out,if_pos (.inl h1)]
  rw [e];clear e HR
  go_enter Try.func14,Try.ntmps14
  go_wp2_with fail
  go_ret
  exact ⟨rfl,HH.out 0⟩
 by_cases h2:4611686018427387903<code
 ·have e:resetS s code sure=(1,s):=by rw [HR.out,if_pos (.inr (.inl h2))]
  rw [e];clear e HR
  go_enter Try.func14,Try.ntmps14
  go_wp2_with fail
  go_ret
  exact ⟨rfl,HH.out 0⟩
 by_cases h3:sure<0
 ·have e:resetS s code sure=(1,s):=by rw [HR.out,if_pos (.inr (.inr (.inl h3)))]
  rw [e];clear e HR
  go_enter Try.func14,Try.ntmps14
  go_wp2_with fail
  go_ret
  exact ⟨rfl,HH.out 0⟩
 by_cases h4:n<sure
 ·have e:resetS s code sure=(1,s):=by rw [HR.out,if_pos (.inr (.inr (.inr h4)))]
  rw [e];clear e HR
  go_enter Try.func14,Try.ntmps14
  go_wp2_with fail
  refine HS.out.mono ?_;rintro e w' ⟨rfl,hw'⟩;subst hw'
  go_wp2_with fail
  go_ret
  exact ⟨rfl,HH.out 0⟩
 rw [if_neg (by omega)] at HR
 cases d
 case neg.true =>
  have e:resetS s code sure=(6,s):=by rw [HR.out,if_pos (.inl rfl)]
  rw [e];clear e HR
  go_enter Try.func14,Try.ntmps14
  go_wp2_with fail
  refine HS.out.mono ?_;rintro e w' ⟨rfl,hw'⟩;subst hw'
  go_wp2_with fail
  refine HD.out.mono ?_;rintro e w' ⟨rfl,q,rfl⟩
  go_wp2_with fail
  go_ret
  exact ⟨rfl,HH.out q⟩
 case neg.false =>
  obtain ⟨rs,hrs⟩:∃ x,s.rs=x:=⟨_,rfl⟩
  cases rs
  ·have e:resetS s code sure=(0,⟨s.l,s.u,s.id,s.bs,s.lost,s.came,s.fd,s.fin,true,code,sure,0⟩):=by
    rw [HR.out,if_neg (by rw [hrs];simp),if_neg (by rw [hrs];simp)]
   rw [e];clear e HR
   rw [hrs] at hc8
   have HN:Hid (∀ q,StTo w (((((w.drewN q).setCell ⟨p,9,none⟩ (.int .i64 code)).setCell ⟨p,8,none⟩ (.bool true)).setCell ⟨p,10,none⟩ (.int .i64 sure)).setCell ⟨p,11,none⟩ (.int .i64 0)) p F ⟨s.l,s.u,s.id,s.bs,s.lost,s.came,s.fd,s.fin,true,code,sure,0⟩):=fun q=>by
    have g0:=H.out.drewN q
    have g1:=g0.put ⟨s.l,s.u,s.id,s.bs,s.lost,s.came,s.fd,s.fin,s.rs,code,s.sure,s.br⟩ 9 (.int .i64 code) rfl rfl rfl rfl
    have g2:=g1.put ⟨s.l,s.u,s.id,s.bs,s.lost,s.came,s.fd,s.fin,true,code,s.sure,s.br⟩ 8 (.bool true) rfl rfl rfl rfl
    have g3:=g2.put ⟨s.l,s.u,s.id,s.bs,s.lost,s.came,s.fd,s.fin,true,code,sure,s.br⟩ 10 (.int .i64 sure) rfl rfl rfl rfl
    have g4:=g3.put ⟨s.l,s.u,s.id,s.bs,s.lost,s.came,s.fd,s.fin,true,code,sure,0⟩ 11 (.int .i64 0) rfl rfl rfl rfl
    exact ⟨F,v3,v4,v5,g4,(((((Kept.refl F w).drewN q).then (kept_put _ g0.pF _ _)).then (kept_put _ g0.pF _ _)).then (kept_put _ g0.pF _ _)).then (kept_put _ g0.pF _ _),fun _ hk=>.inl hk⟩
   have f8:=hff 8
   have f9:=hff 9
   have f10:=hff 10
   have f11:=hff 11
   have hc9':=H.out.cells.2.2.2.2.2.2.2.1
   have hc11':=H.out.cells.2.2.2.2.2.2.2.2.2
   clear hff hrs
   go_enter Try.func14,Try.ntmps14
   go_wp2_with fail
   refine HS.out.mono ?_;rintro e w' ⟨rfl,hw'⟩;subst hw'
   go_wp2_with fail
   refine HD.out.mono ?_;rintro e w' ⟨rfl,q,rfl⟩
   go_wp2_with fail
   go_ret
   exact ⟨rfl,HN.out q⟩
  ·rw [hrs] at hc8
   by_cases h5:s.sure≤sure
   ·have e:resetS s code sure=(6,s):=by rw [HR.out,if_pos (.inr ⟨hrs,h5⟩)]
    rw [e];clear e HR
    go_enter Try.func14,Try.ntmps14
    go_wp2_with fail
    refine HS.out.mono ?_;rintro e w' ⟨rfl,hw'⟩;subst hw'
    go_wp2_with fail
    refine HD.out.mono ?_;rintro e w' ⟨rfl,q,rfl⟩
    go_wp2_with fail
    go_ret
    exact ⟨rfl,HH.out q⟩
   ·have e:resetS s code sure=(0,⟨s.l,s.u,s.id,s.bs,s.lost,s.came,s.fd,s.fin,true,s.code,sure,0⟩):=by
     rw [HR.out,if_neg (by rw [hrs];simp;omega),if_pos hrs]
    rw [e];clear e HR
    have HN:Hid (∀ q,StTo w ((((w.drewN q).setCell ⟨p,8,none⟩ (.bool true)).setCell ⟨p,10,none⟩ (.int .i64 sure)).setCell ⟨p,11,none⟩ (.int .i64 0)) p F ⟨s.l,s.u,s.id,s.bs,s.lost,s.came,s.fd,s.fin,true,s.code,sure,0⟩):=fun q=>by
     have g0:=H.out.drewN q
     have g2:=g0.put ⟨s.l,s.u,s.id,s.bs,s.lost,s.came,s.fd,s.fin,true,s.code,s.sure,s.br⟩ 8 (.bool true) rfl rfl rfl rfl
     have g3:=g2.put ⟨s.l,s.u,s.id,s.bs,s.lost,s.came,s.fd,s.fin,true,s.code,sure,s.br⟩ 10 (.int .i64 sure) rfl rfl rfl rfl
     have g4:=g3.put ⟨s.l,s.u,s.id,s.bs,s.lost,s.came,s.fd,s.fin,true,s.code,sure,0⟩ 11 (.int .i64 0) rfl rfl rfl rfl
     exact ⟨F,v3,v4,v5,g4,((((Kept.refl F w).drewN q).then (kept_put _ g0.pF _ _)).then (kept_put _ g0.pF _ _)).then (kept_put _ g0.pF _ _),fun _ hk=>.inl hk⟩
    have f8:=hff 8
    have f10:=hff 10
    have f11:=hff 11
    have hc11':=H.out.cells.2.2.2.2.2.2.2.2.2
    clear hff hrs
    go_enter Try.func14,Try.ntmps14
    go_wp2_with fail
    refine HS.out.mono ?_;rintro e w' ⟨rfl,hw'⟩;subst hw'
    go_wp2_with fail
    refine HD.out.mono ?_;rintro e w' ⟨rfl,q,rfl⟩
    go_wp2_with fail
    go_ret
    exact ⟨rfl,HN.out q⟩
end
end Go.Proofs.Ytoahkffdoaphlaa.Se
