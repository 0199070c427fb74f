/- Joined texts. Conditions: as each theorem lists them. -/
import Derived.Test.YtoahkffdoaphlaaJSc
set_option linter.unusedSimpArgs false
set_option linter.unusedVariables false
set_option maxRecDepth 100000
set_option maxHeartbeats 80000000
namespace Go.Proofs.Ytoahkffdoaphlaa.Sp
open Go Go.RowKit
/-- What Gaps tells, where there is any number. -/
theorem gapsG_parts (es:List Int) (f t:Int):gapsG es f t=bit (!oddB (up es f)) f ++ (es.drop (up es f)).take (lo es t - up es f) ++ bit (!oddB (lo es t)) t:=by
 unfold gapsG bit
 cases oddB (up es f) <;> cases oddB (lo es t) <;> rfl
theorem gaps_none (es:List Int) (p o:Nat) (f t:Int) (w:World) (hft:clamp t≤clamp f) :
  Calls Try.prog 56 #[.pointer (some ⟨p,o,none⟩),.int .i64 f,.int .i64 t] w fun e w'=>e=.returned (.slice none 0 0)∧w=w':=by
 obtain ⟨f',hf⟩:∃ x,Hid (clamp f=x):=⟨_,rfl⟩
 obtain ⟨t',ht⟩:∃ x,Hid (clamp t=x):=⟨_,rfl⟩
 have W1:Hid (∀ W,Calls Try.prog 97 #[.int .i64 f] W fun e w'=>e=.returned (.int .i64 f')∧W=w'):=fun W=>by have:=within_any f W;rwa [hf.out] at this
 have W2:Hid (∀ W,Calls Try.prog 97 #[.int .i64 t] W fun e w'=>e=.returned (.int .i64 t')∧W=w'):=fun W=>by have:=within_any t W;rwa [ht.out] at this
 rw [hf.out,ht.out] at hft
 go_enter Try.func56,Try.ntmps56
 go_wp2_with fail
 refine (W1.out _).mono ?_;rintro e w' ⟨rfl,rfl⟩
 go_wp2_with fail
 refine (W2.out _).mono ?_;rintro e w' ⟨rfl,rfl⟩
 go_wp2_with fail
 go_ret
 exact ⟨rfl,rfl⟩
theorem gaps_do (es:List Int) (p o:Nat) (T:TypeId) (cur:Array Value) (f t:Int) (w:World) (h:SetIn w p o T cur es) (hm:(es.length+2) * 8≤140737488355328) (hft:clamp f<clamp t) :
  Calls Try.prog 56 #[.pointer (some ⟨p,o,none⟩),.int .i64 f,.int .i64 t] w fun e w'=>∃ v',e=.returned v'∧w'.ownsRow w.heap.size 88 2 v' ((gapsG es (clamp f) (clamp t)).length / 2) (ints (gapsG es (clamp f) (clamp t)))∧Below w.heap.size w w':=by
 have cf:=clamp_in f
 have ct:=clamp_in t
 obtain ⟨f',hf⟩:∃ x,Hid (clamp f=x):=⟨_,rfl⟩
 obtain ⟨t',ht⟩:∃ x,Hid (clamp t=x):=⟨_,rfl⟩
 have W1:Hid (∀ W,Calls Try.prog 97 #[.int .i64 f] W fun e w'=>e=.returned (.int .i64 f')∧W=w'):=fun W=>by have:=within_any f W;rwa [hf.out] at this
 have W2:Hid (∀ W,Calls Try.prog 97 #[.int .i64 t] W fun e w'=>e=.returned (.int .i64 t')∧W=w'):=fun W=>by have:=within_any t W;rwa [ht.out] at this
 rw [hf.out,ht.out] at hft ⊢
 rw [hf.out] at cf
 rw [ht.out] at ct
 have hle:¬ t'≤f':=by omega
 obtain ⟨n,hn⟩:∃ n,Hid (es.length=n):=⟨_,rfl⟩
 obtain ⟨A,c,hat,hcur,haw⟩:=h.at (by omega)
 have hhp:=h.2.1
 have HOk:=Lib.hid (ok_gapsG h.1 f' t' (by omega) hft (by omega))
 have L1:=upto_any es w.heap.size p o A c f' w hat
 have L2:∀ q,Calls Try.prog 98 #[.pointer (some ⟨p,o,none⟩),.int .i64 t'] (w.drewN q) fun e w'=>e=.returned (.int .i64 ((lo es t':Nat):Int))∧∃ q',w'=(w.drewN q).drewN q':=fun q=>below_any es w.heap.size p o A c t' (w.drewN q) hat
 have hlu:=up_le_lo es f' t' hft
 have hul:=lo_le_len es t'
 obtain ⟨i,hi⟩:∃ i,Hid (up es f'=i):=⟨_,rfl⟩
 obtain ⟨j,hj⟩:∃ j,Hid (lo es t'=j):=⟨_,rfl⟩
 have HT:Hid (gapsG es f' t'=bit (!oddB i) f' ++ (es.drop i).take (j - i) ++ bit (!oddB j) t'):=by show _=_;rw [gapsG_parts,hi.out,hj.out]
 rw [hi.out] at L1 hlu
 rw [hj.out] at L2 hlu hul
 rw [hn.out] at hul hm hcur
 have HL1:=Lib.hid L1
 have HL2:=Lib.hid L2
 have hcell:w.cell? ⟨p,o,none⟩=some (.slice A n c):=cell_slot hhp hcur
 have hpz:Hid (p<w.heap.size):=h.lt
 have hnc:n≤c:=by have:=hat.2.2.1;rwa [hn.out] at this
 have HX:Hid (Rd w w.heap.size A n (ints es)):=by have:=hat.2.2.2.2.1;rwa [hn.out] at this
 have HHP:=Lib.hid hhp
 have HCU:=Lib.hid hcur
 have O1:=Lib.hid (fun W=>odd_any i W (by omega))
 have O2:=Lib.hid (fun W=>odd_any j W (by omega))
 obtain ⟨o1,ho1⟩:∃ o,Hid (oddB i=o):=⟨_,rfl⟩
 obtain ⟨o2,ho2⟩:∃ o,Hid (oddB j=o):=⟨_,rfl⟩
 rw [ho1.out] at O1 HT
 rw [ho2.out] at O2 HT
 obtain ⟨i0,hii,hz0,hz1,hz2⟩:=info_parts infoI
 have HI:=Lib.hid (And.intro hii (And.intro hz0 (And.intro hz1 hz2)))
 have hib:(i:Int)≤(n:Int):=by omega
 have hjb:(j:Int)≤(n:Int):=by omega
 have hij:(i:Int)≤(j:Int):=by omega
 have hnb:(n:Int)≤17592186044416:=by omega
 have hncI:(n:Int)≤(c:Int):=by omega
 have hicI:(i:Int)≤(c:Int):=by omega
 have hjcI:(j:Int)≤(c:Int):=by omega
 clear hat L1 L2 hii hz0 hz1 hz2 hhp hcur haw h
 go_enter Try.func56,Try.ntmps56
 go_wp2_with fail
 refine (W1.out _).mono ?_;rintro e w' ⟨rfl,rfl⟩
 go_wp2_with fail
 refine (W2.out _).mono ?_;rintro e w' ⟨rfl,rfl⟩
 go_wp2_with fail
 refine HL1.out.mono ?_;rintro e w' ⟨rfl,q1,rfl⟩
 go_wp2_with fail
 refine (HL2.out q1).mono ?_;rintro e wd ⟨rfl,q2,hwd⟩
 have HHPd:Hid (wd.heap[p]?=some (.cells cur T (0,0))):=by rw [hwd];exact HHP.out
 have hpz2:p<wd.heap.size:=by rw [hwd];exact hpz.out
 have HSZ:Hid (wd.heap.size=w.heap.size):=by rw [hwd];exact rfl
 have HXd:Hid (Rd wd wd.heap.size A n (ints es)):=by rw [hwd];exact HX.out
 have HBd:Hid (Below w.heap.size w wd):=by rw [hwd];exact (Below.drewN' _ _ _).trans (Below.drewN' _ _ _)
 clear hwd hcell
 go_upto_if 25 with (go_at_call 95;refine (O1.out _).mono ?_;rintro e w' ⟨rfl,rfl⟩)
 go_cut [9] (fun v wx=>∃ m,m≤1∧Hid (TurnW wd wx v m (bit (!o1) f')))
 case first =>
  cases o1 with
  | true =>
    go_wp2_with fail
    go_meet
    case rel=>exact ⟨0,by omega,own_nil _ _ _ _,Below.refl _ _⟩
  | false =>
    have hd1:Hid (Rd (wd.alloc (.cells #[.int .i64 f'] 3)) (wd.heap.size+1) (some ⟨wd.heap.size,0,none⟩) (1 * 1) (ints [f'])):=rd_new _ _ _ _ _ _ _ rfl (by omega) rfl rfl
    have hd2:Hid (0+1≤maxLen):=by show _≤_;unfold maxLen;omega
    have hd4:Hid (wd.heap.size≤(wd.alloc (.cells #[.int .i64 f'] 3)).heap.size):=by show _≤_;simp only [World.size_alloc];omega
    go_wp2_with (at_builtin;refine wpList_app _ rfl (.tmp 26) (.tmp 28) 41 rfl wd.heap.size 3 i0 (.int .i64 0) 1 8 Try.underlying41 HI.out.1 HI.out.2.1 HI.out.2.2.1 HI.out.2.2.2 rfl (by decide) (.slice none 0 0) 0 [] rfl (own_nil _ _ _ _) (wd.heap.size+1) (some ⟨wd.heap.size,0,none⟩) 1 _ (ints [f']) rfl hd1.out (ones_ints _) hd2.out (by decide) hd4.out ?_)
    intro v2 w2 hown2 hgrow2
    have HT2:Hid (TurnW wd w2 v2 1 (bit true f')) :=
     ⟨by simpa [bit,ints] using hown2,((Below.refl _ _).alloc (Nat.le_refl _) _).grown hgrow2 hd4.out (fun g hg=>by simp [Value.ownBlock] at hg)⟩
    clear hown2 hgrow2
    go_wp2_with fail
    go_meet
    case rel=>exact ⟨1,by omega,HT2⟩
 case rest =>
  obtain ⟨m,hm1,HT2⟩:=hcut
  obtain ⟨X,hX⟩:∃ X,Hid (bit (!o1) f'=X):=⟨_,rfl⟩
  rw [hX.out] at HT2 HT
  obtain ⟨w2,hw2⟩:∃ w2:World,wc=w2:=⟨_,rfl⟩
  subst hw2
  obtain ⟨A2,c2,e2,_⟩:=own_form HT2.out.1
  subst e2
  have HSW:Hid (wd.heap.size≤wc.heap.size):=HT2.out.2.size
  have hcell3:wc.cell? ⟨p,o,none⟩=some (.slice A n c):=by
   rw [HT2.out.2.cell (p:=⟨p,o,none⟩) hpz2];exact cell_slot HHPd.out HCU.out
  have hd1:Hid (Rd wc wd.heap.size (tailA A c i) ((j - i) * 1) (ints ((es.drop i).take (j - i)))):=by
   rw [Nat.mul_one,← ints_take,← ints_drop]
   exact ((HXd.out.below HT2.out.2 (Nat.le_refl _)).tail c i (by omega) hnc).head (j - i) (by omega)
  have hd2:Hid (m+(j - i)≤maxLen):=by show _≤_;unfold maxLen;omega
  have hd3:Hid ((m+(j - i)) * 8≤140737488355328):=by show _≤_;omega
  go_wp2_with (at_builtin;refine wpList_app _ rfl (.tmp 30) (.tmp 37) 41 rfl wd.heap.size 3 i0 (.int .i64 0) 1 8 Try.underlying41 HI.out.1 HI.out.2.1 HI.out.2.2.1 HI.out.2.2.2 rfl (by decide) (.slice A2 m c2) m (ints X) rfl HT2.out.1 wd.heap.size (tailA A c i) (j - i) _ (ints ((es.drop i).take (j - i))) rfl hd1.out (ones_ints _) hd2.out hd3.out HSW.out ?_)
  all_goals
   intro v3 w3 hown3 hgrow3
   have HT3:Hid (TurnW wd w3 v3 (m+(j - i)) (X ++ (es.drop i).take (j - i))):=by
    refine ⟨?_,HT2.out.2.grown hgrow3 HSW.out (fun g hg=>(HT2.out.1.lt g hg).1)⟩
    rw [ints_app]
    exact hown3
   clear hown3 hgrow3 hcell3
   obtain ⟨Y,hY⟩:∃ Y,Hid (X ++ (es.drop i).take (j - i)=Y):=⟨_,rfl⟩
   rw [hY.out] at HT3 HT
   obtain ⟨M,hM⟩:∃ M,Hid (m+(j - i)=M):=⟨_,rfl⟩
   have hMb:M≤n+1:=by have:=hM.out;omega
   rw [hM.out] at HT3
   go_upto_if 41 with (go_at_call 95;refine (O2.out _).mono ?_;rintro e w' ⟨rfl,rfl⟩)
   go_cut [9] (fun v wx=>∃ m',m'≤M+1∧Hid (TurnW wd wx v m' (Y ++ bit (!o2) t')))
   case first =>
    obtain ⟨A3,c3,e3,_⟩:=own_form HT3.out.1
    subst e3
    cases o2 with
    | true =>
      go_wp2_with fail
      go_meet
      case rel=>exact ⟨M,by omega,by have:=HT3.out;show TurnW _ _ _ _ _;simpa [bit] using this⟩
    | false =>
      have HSW3:Hid (wd.heap.size≤w3.heap.size):=HT3.out.2.size
      have hd1:Hid (Rd (w3.alloc (.cells #[.int .i64 t'] 3)) (w3.heap.size+1) (some ⟨w3.heap.size,0,none⟩) (1 * 1) (ints [t'])):=rd_new _ _ _ _ _ _ _ rfl (by omega) rfl rfl
      have hd2:Hid (M+1≤maxLen):=by show _≤_;unfold maxLen;omega
      have hd3:Hid ((M+1) * 8≤140737488355328):=by show _≤_;omega
      have hd4:Hid (wd.heap.size≤(w3.alloc (.cells #[.int .i64 t'] 3)).heap.size):=by have:=HSW3.out;show _≤_;simp only [World.size_alloc];omega
      go_wp2_with (at_builtin;refine wpList_app _ rfl (.tmp 42) (.tmp 44) 41 rfl wd.heap.size 3 i0 (.int .i64 0) 1 8 Try.underlying41 HI.out.1 HI.out.2.1 HI.out.2.2.1 HI.out.2.2.2 rfl (by decide) (.slice A3 M c3) M (ints Y) rfl (HT3.out.1.alloc _) (w3.heap.size+1) (some ⟨w3.heap.size,0,none⟩) 1 _ (ints [t']) rfl hd1.out (ones_ints _) hd2.out hd3.out hd4.out ?_)
      intro v4 w4 hown4 hgrow4
      have HT4:Hid (TurnW wd w4 v4 (M+1) (Y ++ bit true t')):=by
       refine ⟨?_,(HT3.out.2.alloc HSW3.out _).grown hgrow4 hd4.out (fun g hg=>(HT3.out.1.lt g hg).1)⟩
       rw [ints_app]
       exact hown4
      clear hown4 hgrow4
      go_wp2_with fail
      go_meet
      case rel=>exact ⟨M+1,by omega,HT4⟩
   case rest =>
    obtain ⟨K,hK,HT4⟩:=hcut
    rw [← HT.out] at HT4
    obtain ⟨A4,c4,e4,hc4,_,_,hrd4⟩:=own_form HT4.out.1
    subst e4
    obtain rfl:K=(gapsG es f' t').length:=by have:=HT4.out.1.1;rw [ints_len,Nat.mul_one] at this;exact this.symm
    rw [Nat.mul_one] at hrd4
    have HP:=Lib.hid (pairs_any _ _ A4 c4 _ hrd4 (Nat.le_refl _) HOk.out.2.1 (by omega) hc4)
    clear hrd4
    go_wp2_with fail
    refine HP.out.mono ?_
    rintro e w5 ⟨v5,rfl,h1,h2⟩
    have HS5:Hid (w.heap.size≤wc.heap.size):=by have:=HT4.out.2.size;have:=HSZ.out;show _≤_;omega
    have H1:=Lib.hid (own_base h1 HS5.out)
    have H2:Hid (Below w.heap.size w w5):=(HBd.out.trans (by have:=HT4.out.2;rwa [HSZ.out] at this)).trans (h2.mono HS5.out)
    clear h1 h2
    go_wp2
    go_ret
    exact ⟨_,rfl,H1.out,H2.out⟩
theorem gaps_any (es:List Int) (p o:Nat) (T:TypeId) (cur:Array Value) (f t:Int) (w:World) (h:SetIn w p o T cur es) (hm:(es.length+2) * 8≤140737488355328) :
  Calls Try.prog 56 #[.pointer (some ⟨p,o,none⟩),.int .i64 f,.int .i64 t] w fun e w'=>∃ v',e=.returned v'∧w'.ownsRow w.heap.size 88 2 v' ((gapsF es f t).length / 2) (ints (gapsF es f t))∧Below w.heap.size w w':=by
 unfold gapsF
 by_cases hft:clamp t≤clamp f
 ·rw [if_pos hft]
  refine (gaps_none es p o f t w hft).mono ?_
  rintro e w' ⟨rfl,rfl⟩
  exact ⟨_,rfl,own_nil _ _ _ _,Below.refl _ _⟩
 ·rw [if_neg hft]
  exact gaps_do es p o T cur f t w h hm (by omega)
end Go.Proofs.Ytoahkffdoaphlaa.Sp
