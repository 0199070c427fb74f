/- Joined texts. Conditions: as each theorem lists them. -/
import Derived.Test.YtoahkffdoaphlaaJKb
set_option linter.unusedSimpArgs false
set_option linter.unusedVariables false
set_option maxRecDepth 100000
set_option maxHeartbeats 80000000
namespace Go.Proofs.Ytoahkffdoaphlaa.Cr
open Go Go.RowKit Go.Proofs.Ytoahkffdoaphlaa Go.Proofs.Ytoahkffdoaphlaa.Cg
theorem rwithin_any (n a b:Int) (h:a≤b) (w:World) :
  Calls Try.prog 84 #[.int .i64 n,.int .i64 a,.int .i64 b] w fun e w'=>e=.returned (.int .i64 (min (max n a) b))∧w'=w:=by
 go_enter Try.func84,Try.ntmps84
 go_wp2
 all_goals go_ret
 all_goals exact ⟨ret_int (by omega),rfl⟩
section
variable {w:World} {p o:Nat} {T:TypeId} {cur:Array Value} {l u rm rd tl:Int}
theorem rleft_any (h:CredIn w p o T cur l u) (hl:0≤l∧l≤9223372036854775807) (hu:0≤u∧u≤9223372036854775807) :
  Calls Try.prog 31 #[.pointer (some ⟨p,o,none⟩)] w fun e w'=>e=.returned (.int .i64 (leftF l u))∧∃ q,w'=w.drewN q:=by
 obtain ⟨hc0,hc1,hf⟩:=h.cell
 clear h hf
 obtain ⟨hl0,hl1⟩:=hl
 obtain ⟨hu0,hu1⟩:=hu
 have HF:Hid (leftF l u=max 0 (l - u)):=rfl
 obtain ⟨d,hd⟩:∃ d,l - u=d:=⟨_,rfl⟩
 have hw:IntKind.i64.wrap (l - u)=d:=by rw [hd];exact IntWalk.i64_in _ (by omega)
 rw [hd] at HF
 have hd0:-9223372036854775807≤d:=by omega
 have hd1:d≤9223372036854775807:=by omega
 obtain ⟨f,hf⟩:∃ f,leftF l u=f:=⟨_,rfl⟩
 rw [hf] at HF ⊢
 clear hf
 rcases Int.lt_trichotomy 0 d with hlt | hlt | hlt
 all_goals
  go_enter Try.func31,Try.ntmps31
  go_wp2_with fail
  go_quiet (fail)
  go_wp2_with fail
  go_ret
  exact ⟨ret_int (by have:=HF.out;omega),_,rfl⟩
theorem ruse_any (h:CredIn w p o T cur l u) (hl:0≤l∧l≤9223372036854775807) (hu:0≤u∧u≤9223372036854775807) (n:Int) :
  Calls Try.prog 73 #[.pointer (some ⟨p,o,none⟩),.int .i64 n] w fun e w'=>e=.returned (.bool (useB l u n))∧CredTo w w' p o T cur l (if useB l u n=true then u+n else u):=by
 obtain ⟨hc0,hc1,hf⟩:=h.cell
 have hf1:=hf (o+1)
 have H:=Lib.hid h
 have HL:=Lib.hid (rleft_any h hl hu)
 have hle:leftF l u≤9223372036854775807∧0≤leftF l u∧(0<leftF l u→u+leftF l u=l):=by unfold leftF;omega
 have HU:Hid (useB l u n=decide (0≤n∧n≤leftF l u)):=rfl
 obtain ⟨f,hf⟩:∃ f,leftF l u=f:=⟨_,rfl⟩
 rw [hf] at HL HU hle
 obtain ⟨hf0,hf2,hf3⟩:=hle
 obtain ⟨hu0,hu1⟩:=hu
 obtain ⟨hl0,hl1⟩:=hl
 clear h hf
 by_cases hn:n<0
 ·have e:useB l u n=false:=by rw [HU.out];simp;omega
  rw [e]
  clear e hf0 hf2 hf3 hf1 HL HU
  go_enter Try.func73,Try.ntmps73
  go_wp2_with fail
  go_ret
  exact ⟨rfl,H.out.here 0⟩
 ·by_cases hg:f<n
  ·have e:useB l u n=false:=by rw [HU.out];simp;omega
   rw [e]
   clear e hf3 hf1 HU
   go_enter Try.func73,Try.ntmps73
   go_wp2_with fail
   refine HL.out.mono ?_;rintro e w1 ⟨rfl,q,rfl⟩
   go_wp2_with fail
   go_ret
   exact ⟨rfl,H.out.here _⟩
  ·have e:useB l u n=true:=by rw [HU.out];simp;omega
   rw [e]
   have hs:u+n≤9223372036854775807:=by omega
   have hs0:0≤u+n:=by omega
   have HF:=Lib.hid (fun q=>CredIn.set1 H.out (u+n) q)
   obtain ⟨s,hsn⟩:∃ s,u+n=s:=⟨_,rfl⟩
   have hw:IntKind.i64.wrap (u+n)=s:=by rw [hsn];exact IntWalk.i64_in _ (by omega)
   have HE:=Lib.hid hsn
   clear e hf3 HU
   go_enter Try.func73,Try.ntmps73
   go_wp2_with fail
   refine HL.out.mono ?_;rintro e w1 ⟨rfl,q,rfl⟩
   go_wp2_with fail
   go_ret
   have:=HF.out q
   rw [HE.out] at this
   exact ⟨rfl,this⟩
theorem rraise_any (h:CredIn w p o T cur l u) (n:Int) :
  Calls Try.prog 17 #[.pointer (some ⟨p,o,none⟩),.int .i64 n] w fun e w'=>e=.returned (.bool (raiseB l n))∧CredTo w w' p o T cur (if raiseB l n=true then n else l) u:=by
 obtain ⟨hc0,_,hf⟩:=h.cell
 have hf0:=hf o
 have H:=Lib.hid h
 have HU:Hid (raiseB l n=decide (l<n∧n≤4611686018427387903)):=rfl
 clear h hf
 by_cases hn:n≤l
 ·have e:raiseB l n=false:=by rw [HU.out];simp;omega
  rw [e]
  clear e HU
  go_enter Try.func17,Try.ntmps17
  go_wp2_with fail
  go_ret
  exact ⟨rfl,H.out.here 0⟩
 ·by_cases hg:4611686018427387903<n
  ·have e:raiseB l n=false:=by rw [HU.out];simp;omega
   rw [e]
   clear e HU
   go_enter Try.func17,Try.ntmps17
   go_wp2_with fail
   go_ret
   exact ⟨rfl,H.out.here 0⟩
  ·have e:raiseB l n=true:=by rw [HU.out];simp;omega
   rw [e]
   clear e HU
   go_enter Try.func17,Try.ntmps17
   go_wp2_with fail
   go_ret
   exact ⟨rfl,H.out.set0 n 0⟩
theorem rnewgrant_any (w:World) (n:Int):Calls Try.prog 79 #[.int .i64 n] w fun e w'=>e=.returned (.agg #[.int .i64 (roomF n),.int .i64 0,.int .i64 (roomF n)])∧Below w.heap.size w w':=by
 have HW:=Lib.hid (fun W=>rwithin_any n 1 1048576 (by decide) W)
 obtain ⟨r,hr⟩:∃ r,roomF n=r:=⟨_,rfl⟩
 have e:min (max n 1) 1048576=r:=hr
 rw [e] at HW
 rw [hr]
 clear hr e
 go_enter Try.func79,Try.ntmps79
 go_wp2_with fail
 refine (HW.out _).mono ?_;rintro e w1 ⟨rfl,rfl⟩
 go_wp2_with fail
 exact bodyPost_ret (results_cell_row rfl _ _ w.heap.size 78 _ (0,0) _ rfl (heap_alloc_new w _) Try.underlying78 rfl (by kernel_rfl)) rfl ⟨rfl,(Below.refl _ _).alloc (Nat.le_refl _) _⟩
theorem reat_any (h:GrIn w p o T cur rm rd tl) (hrd:0≤rd∧rd≤9223372036853727231) (n:Int) :
  Calls Try.prog 85 #[.pointer (some ⟨p,o,none⟩),.int .i64 n] w fun e w'=>e=.returned (.tuple #[])∧GrTo w w' p o T cur rm (rd+eatF n) tl:=by
 obtain ⟨_,hc1,_,hf⟩:=h.cell
 have H:=Lib.hid h
 obtain ⟨he0,he1⟩:=eatF_in n
 have HW:=Lib.hid (fun W=>rwithin_any n 0 1048576 (by decide) W)
 obtain ⟨r,hr⟩:∃ r,eatF n=r:=⟨_,rfl⟩
 have e:min (max n 0) 1048576=r:=hr
 rw [e] at HW
 rw [hr] at he0 he1 ⊢
 obtain ⟨s,hs⟩:∃ s,rd+r=s:=⟨_,rfl⟩
 have hw:IntKind.i64.wrap (rd+r)=s:=by rw [hs];exact IntWalk.i64_in _ (by omega)
 rw [hs]
 clear hr e h hs
 go_enter Try.func85,Try.ntmps85
 go_wp2_with fail
 refine still_tail 10 (by kernel_rfl) (by kernel_rfl) ?_
 intro wz hwz
 have hz1:wz.cell? ⟨p,o+1,none⟩=some (.int .i64 rd):=by rw [hwz];exact hc1
 have hzf:wz.frozen? ⟨p,o+1,none⟩=false:=by rw [hwz];exact hf (o+1)
 have HZ:Hid (wz=w.drewN 1):=by rw [hwz];rfl
 clear hwz hc1 hf
 simp only [List.take_succ_cons,List.take_zero,List.drop_succ_cons,List.drop_zero]
 iterate 6 still_step
 still_call (HW.out _)
 iterate 3 still_step
 refine wpStill_nil ?_
 go_wp2_with fail
 go_end0
 refine ⟨rfl,?_⟩
 have:=H.out.set1 s 1
 rw [← HZ.out] at this
 exact this
theorem rtell_any (h:GrIn w p o T cur rm rd tl) (hrd:0≤rd) (hrm:0≤rm) (hs:rd+rm≤9223372036854775807) :
  Calls Try.prog 39 #[.pointer (some ⟨p,o,none⟩)] w fun e w'=>e=.returned (.int .i64 (max tl (rd+rm)))∧GrTo w w' p o T cur rm rd (max tl (rd+rm)):=by
 obtain ⟨hc0,hc1,hc2,hf⟩:=h.cell
 have H:=Lib.hid h
 obtain ⟨g,hg⟩:∃ k,rd+rm=k:=⟨_,rfl⟩
 have hw2:IntKind.i64.wrap (rd+rm)=g:=by rw [hg];exact IntWalk.i64_in _ (by omega)
 rw [hg]
 clear h hg
 rcases Int.lt_trichotomy tl g with hlt | hlt | hlt
 ·rw [Int.max_eq_right (Int.le_of_lt hlt)]
  have hlt2:tl≤g:=Int.le_of_lt hlt
  go_enter Try.func39,Try.ntmps39
  go_wp2_with fail
  refine still_tail 17 (by kernel_rfl) (by kernel_rfl) ?_
  intro wz hwz
  have hz0:wz.cell? ⟨p,o,none⟩=some (.int .i64 rm):=by rw [hwz];exact hc0
  have hz1:wz.cell? ⟨p,o+1,none⟩=some (.int .i64 rd):=by rw [hwz];exact hc1
  have hz2:wz.cell? ⟨p,o+2,none⟩=some (.int .i64 tl):=by rw [hwz];exact hc2
  have hzf:wz.frozen? ⟨p,o+2,none⟩=false:=by rw [hwz];exact hf (o+2)
  have HZ:Hid (wz=w.drewN 1):=by rw [hwz];rfl
  clear hwz hc0 hc1 hc2 hf
  simp only [List.take_succ_cons,List.take_zero,List.drop_succ_cons,List.drop_zero]
  iterate 17 still_step
  refine wpStill_nil ?_
  go_wp2_with fail
  go_ret
  refine ⟨rfl,?_⟩
  have:=H.out.set2 g 1
  rw [← HZ.out] at this
  exact this
 ·subst hlt
  rw [Int.max_self]
  go_enter Try.func39,Try.ntmps39
  go_wp2_with fail
  refine still_tail 17 (by kernel_rfl) (by kernel_rfl) ?_
  intro wz hwz
  have hz0:wz.cell? ⟨p,o,none⟩=some (.int .i64 rm):=by rw [hwz];exact hc0
  have hz1:wz.cell? ⟨p,o+1,none⟩=some (.int .i64 rd):=by rw [hwz];exact hc1
  have hz2:wz.cell? ⟨p,o+2,none⟩=some (.int .i64 tl):=by rw [hwz];exact hc2
  have hzf:wz.frozen? ⟨p,o+2,none⟩=false:=by rw [hwz];exact hf (o+2)
  have HZ:Hid (wz=w.drewN 1):=by rw [hwz];rfl
  clear hwz hc0 hc1 hc2 hf
  simp only [List.take_succ_cons,List.take_zero,List.drop_succ_cons,List.drop_zero]
  iterate 17 still_step
  refine wpStill_nil ?_
  go_wp2_with fail
  go_ret
  refine ⟨rfl,?_⟩
  have:=H.out.set2 tl 1
  rw [← HZ.out] at this
  exact this
 ·rw [Int.max_eq_left (Int.le_of_lt hlt)]
  have hlt2:¬ tl≤g:=by omega
  have hlt3:¬ tl<g:=by omega
  go_enter Try.func39,Try.ntmps39
  go_wp2_with fail
  refine still_tail 17 (by kernel_rfl) (by kernel_rfl) ?_
  intro wz hwz
  have hz0:wz.cell? ⟨p,o,none⟩=some (.int .i64 rm):=by rw [hwz];exact hc0
  have hz1:wz.cell? ⟨p,o+1,none⟩=some (.int .i64 rd):=by rw [hwz];exact hc1
  have hz2:wz.cell? ⟨p,o+2,none⟩=some (.int .i64 tl):=by rw [hwz];exact hc2
  have hzf:wz.frozen? ⟨p,o+2,none⟩=false:=by rw [hwz];exact hf (o+2)
  have HZ:Hid (wz=w.drewN 1):=by rw [hwz];rfl
  clear hwz hc0 hc1 hc2 hf
  simp only [List.take_succ_cons,List.take_zero,List.drop_succ_cons,List.drop_zero]
  iterate 17 still_step
  refine wpStill_nil ?_
  go_wp2_with fail
  go_ret
  refine ⟨rfl,?_⟩
  have:=H.out.set2 tl 1
  rw [← HZ.out] at this
  exact this
end
end Go.Proofs.Ytoahkffdoaphlaa.Cr
