/- Joined texts. Conditions: as each theorem lists them. -/
import Derived.Test.YtoahkffdoaphlaaJKa
import Derived.Deep.RegionHeld
set_option linter.unusedSimpArgs false
set_option linter.unusedVariables false
set_option maxRecDepth 100000
set_option maxHeartbeats 80000000
namespace Go.Proofs.Ytoahkffdoaphlaa.Cr
open Go Go.RowKit Go.Proofs.Ytoahkffdoaphlaa Go.Proofs.Ytoahkffdoaphlaa.Cg
theorem still_tail {P:Program} {id:Nat} {Q:Exit→Act→World→Prop} {a:Act} {w:World} {l:List Oper} (n:Nat) (hm:P.follows .mixedOrders=true) (hB:Region.lexTailB .any l.toArray n=true)
  (h:∀ w':World,w'=w.drew→wpStill P l.toArray w' (fun a'=>wpList P l.toArray Q (l.drop n) a' w') (l.take n) a):(Code.region id l.toArray true).wp P Q a w :=
 wp_region_still_tail n hm hB (h _ rfl)
section
variable {w:World} {p o:Nat} {T:TypeId} {cur:Array Value} {l u rm rd tl:Int}
theorem left_any (h:CredIn w p o T cur l u) (hl:0≤l∧l≤9223372036854775807) (hu:0≤u∧u≤9223372036854775807) :
  Calls Try.prog 30 #[.pointer (some ⟨p,o,none⟩)] w fun e w'=>e=.returned (.int .i64 (leftF l u))∧∃ q,w'=w.drewN q:=by
 obtain ⟨hc0,hc1,hf⟩:=h.cell
 clear h hf
 obtain ⟨hl0,hl1⟩:=hl
 obtain ⟨hu0,hu1⟩:=hu
 by_cases hc:l≤u
 ·have e:leftF l u=0:=by unfold leftF;omega
  rw [e]
  clear e
  go_enter Try.func30,Try.ntmps30
  go_wp2_with fail
  go_quiet (fail)
  go_wp2_with fail
  go_ret
  exact ⟨rfl,_,rfl⟩
 ·obtain ⟨d,hd⟩:∃ d:Nat,l - u=d:=⟨(l - u).toNat,by omega⟩
  have e:leftF l u=d:=by unfold leftF;omega
  rw [e]
  have HG:=Lib.hid (fun W=>gap_any W u l d hd hu0 hl1)
  have hd0:(d:Int)≤9223372036854775807:=by omega
  clear e hd
  go_enter Try.func30,Try.ntmps30
  go_wp2_with fail
  go_quiet (fail)
  obtain ⟨w1,hw1⟩:∃ x,w.drewN nq=x:=⟨_,rfl⟩
  replace hc0:w1.cell? ⟨p,o,none⟩=some (.int .i64 l):=by rw [← hw1];exact hc0
  replace hc1:w1.cell? ⟨p,o+1,none⟩=some (.int .i64 u):=by rw [← hw1];exact hc1
  rw [hw1]
  have HW:=Lib.hid hw1
  clear hw1
  go_wp2_with fail
  go_quiet ((go_at_call 77;exact Calls.quiet_of_same (HG.out _)))
  go_wp2_with fail
  go_ret
  exact ⟨rfl,_,by rw [← HW.out,World.drewN_drewN]⟩
theorem use_any (h:CredIn w p o T cur l u) (hl:0≤l∧l≤9223372036854775807) (hu:0≤u∧u≤9223372036854775807) (n:Int) :
  Calls Try.prog 69 #[.pointer (some ⟨p,o,none⟩),.int .i64 n] w fun e w'=>e=.returned (.bool (useB l u n))∧CredTo w w' p o T cur l (if useB l u n=true then u+n else u):=by
 obtain ⟨hc0,hc1,hf⟩:=h.cell
 have hf1:=hf (o+1)
 have H:=Lib.hid h
 have HL:=Lib.hid (left_any h hl hu)
 have hle:leftF l u≤9223372036854775807∧0≤leftF l u∧(0<leftF l u→u+leftF l u=l):=by unfold leftF;omega
 have HU:Hid (useB l u n=decide (0≤n∧n≤leftF l u)):=rfl
 obtain ⟨f,hf⟩:∃ f,leftF l u=f:=⟨_,rfl⟩
 rw [hf] at HL HU hle
 obtain ⟨hf0,hf2,hf3⟩:=hle
 obtain ⟨hu0,hu1⟩:=hu
 obtain ⟨hl0,hl1⟩:=hl
 clear h hf
 by_cases hn:n<0
 ·have e:useB l u n=false:=by rw [HU.out];simp;omega
  rw [e]
  clear e hf0 hf2 hf3 hf1 HL HU
  go_enter Try.func69,Try.ntmps69
  go_wp2_with fail
  go_ret
  exact ⟨rfl,H.out.here 0⟩
 ·by_cases hg:f<n
  ·have e:useB l u n=false:=by rw [HU.out];simp;omega
   rw [e]
   clear e hf3 hf1 HU
   go_enter Try.func69,Try.ntmps69
   go_wp2_with fail
   refine HL.out.mono ?_;rintro e w1 ⟨rfl,q,rfl⟩
   go_wp2_with fail
   go_ret
   exact ⟨rfl,H.out.here _⟩
  ·have e:useB l u n=true:=by rw [HU.out];simp;omega
   rw [e]
   have hs:u+n≤9223372036854775807:=by omega
   have hs0:0≤u+n:=by omega
   have HF:=Lib.hid (fun q=>CredIn.set1 H.out (u+n) q)
   obtain ⟨s,hsn⟩:∃ s,u+n=s:=⟨_,rfl⟩
   have hw:IntKind.i64.wrap (u+n)=s:=by rw [hsn];exact IntWalk.i64_in _ (by omega)
   have HE:=Lib.hid hsn
   clear e hf3 HU
   go_enter Try.func69,Try.ntmps69
   go_wp2_with fail
   refine HL.out.mono ?_;rintro e w1 ⟨rfl,q,rfl⟩
   go_wp2_with fail
   go_ret
   have:=HF.out q
   rw [HE.out] at this
   exact ⟨rfl,this⟩
theorem raise_any (h:CredIn w p o T cur l u) (n:Int) :
  Calls Try.prog 16 #[.pointer (some ⟨p,o,none⟩),.int .i64 n] w fun e w'=>e=.returned (.bool (raiseB l n))∧CredTo w w' p o T cur (if raiseB l n=true then n else l) u:=by
 obtain ⟨hc0,_,hf⟩:=h.cell
 have hf0:=hf o
 have H:=Lib.hid h
 have HU:Hid (raiseB l n=decide (l<n∧n≤4611686018427387903)):=rfl
 clear h hf
 by_cases hn:n≤l
 ·have e:raiseB l n=false:=by rw [HU.out];simp;omega
  rw [e]
  clear e HU
  go_enter Try.func16,Try.ntmps16
  go_wp2_with fail
  go_ret
  exact ⟨rfl,H.out.here 0⟩
 ·by_cases hg:4611686018427387903<n
  ·have e:raiseB l n=false:=by rw [HU.out];simp;omega
   rw [e]
   clear e HU
   go_enter Try.func16,Try.ntmps16
   go_wp2_with fail
   go_ret
   exact ⟨rfl,H.out.here 0⟩
  ·have e:raiseB l n=true:=by rw [HU.out];simp;omega
   rw [e]
   clear e HU
   go_enter Try.func16,Try.ntmps16
   go_wp2_with fail
   go_ret
   exact ⟨rfl,H.out.set0 n 0⟩
theorem newgrant_any (w:World) (n:Int):Calls Try.prog 78 #[.int .i64 n] w fun e w'=>e=.returned (.agg #[.int .i64 (roomF n),.int .i64 0,.int .i64 (roomF n)])∧Below w.heap.size w w':=by
 have HW:=Lib.hid (fun W=>within_any n 1 1048576 W)
 obtain ⟨r,hr⟩:∃ r,roomF n=r:=⟨_,rfl⟩
 have e:min (max n 1) 1048576=r:=hr
 rw [e] at HW
 rw [hr]
 clear hr e
 go_enter Try.func78,Try.ntmps78
 go_wp2_with fail
 refine (HW.out _).mono ?_;rintro e w1 ⟨rfl,rfl⟩
 go_wp2_with fail
 exact bodyPost_ret (results_cell_row rfl _ _ w.heap.size 73 _ (0,0) _ rfl (heap_alloc_new w _) Try.underlying73 rfl (by kernel_rfl)) rfl ⟨rfl,(Below.refl _ _).alloc (Nat.le_refl _) _⟩
theorem eat_any (h:GrIn w p o T cur rm rd tl) (hrd:0≤rd∧rd≤9223372036853727231) (n:Int) :
  Calls Try.prog 82 #[.pointer (some ⟨p,o,none⟩),.int .i64 n] w fun e w'=>e=.returned (.tuple #[])∧GrTo w w' p o T cur rm (rd+eatF n) tl:=by
 obtain ⟨_,hc1,_,hf⟩:=h.cell
 have H:=Lib.hid h
 obtain ⟨he0,he1⟩:=eatF_in n
 have HW:=Lib.hid (fun W=>within_any n 0 1048576 W)
 obtain ⟨r,hr⟩:∃ r,eatF n=r:=⟨_,rfl⟩
 have e:min (max n 0) 1048576=r:=hr
 rw [e] at HW
 rw [hr] at he0 he1 ⊢
 have HS:=Lib.hid (fun W=>sum_any W rd r (by omega) (by omega) (by omega))
 clear hr e h
 go_enter Try.func82,Try.ntmps82
 go_wp2_with fail
 refine still_tail 10 (by kernel_rfl) (by kernel_rfl) ?_
 intro wz hwz
 have hz1:wz.cell? ⟨p,o+1,none⟩=some (.int .i64 rd):=by rw [hwz];exact hc1
 have hzf:wz.frozen? ⟨p,o+1,none⟩=false:=by rw [hwz];exact hf (o+1)
 have HZ:Hid (wz=w.drewN 1):=by rw [hwz];rfl
 clear hwz hc1 hf
 simp only [List.take_succ_cons,List.take_zero,List.drop_succ_cons,List.drop_zero]
 iterate 6 still_step
 still_call (HW.out _)
 still_call (HS.out _)
 iterate 2 still_step
 refine wpStill_nil ?_
 go_wp2_with fail
 go_end0
 refine ⟨rfl,?_⟩
 have:=H.out.set1 (rd+r) 1
 rw [← HZ.out] at this
 exact this
theorem granted_any (h:GrIn w p o T cur rm rd tl) (hrd:0≤rd) (hrm:0≤rm) (hs:rd+rm≤9223372036854775807) :
  Calls Try.prog 87 #[.pointer (some ⟨p,o,none⟩)] w fun e w'=>e=.returned (.int .i64 (rd+rm))∧∃ q,w'=w.drewN q:=by
 obtain ⟨hc0,hc1,_,hf⟩:=h.cell
 have HS:=Lib.hid (fun W=>sum_any W rd rm hrd hrm hs)
 clear h hf
 go_enter Try.func87,Try.ntmps87
 go_wp2_with fail
 go_quiet ((go_at_call 107;exact Calls.quiet_of_same (HS.out _)))
 go_wp2_with fail
 go_ret
 exact ⟨rfl,_,rfl⟩
theorem tell_any (h:GrIn w p o T cur rm rd tl) (hrd:0≤rd) (hrm:0≤rm) (hs:rd+rm≤9223372036854775807) :
  Calls Try.prog 38 #[.pointer (some ⟨p,o,none⟩)] w fun e w'=>e=.returned (.int .i64 (max tl (rd+rm)))∧GrTo w w' p o T cur rm rd (max tl (rd+rm)):=by
 obtain ⟨_,_,hc2,hf⟩:=h.cell
 have hf2:=hf (o+2)
 have H:=Lib.hid h
 have HH:=H
 have HG:=Lib.hid (fun W h=>granted_any (w:=W) (p:=p) (o:=o) (T:=T) (cur:=cur) (rm:=rm) (rd:=rd) (tl:=tl) h hrd hrm hs)
 obtain ⟨g,hg⟩:∃ k,rd+rm=k:=⟨_,rfl⟩
 rw [hg] at HG ⊢
 clear h hg hf
 rcases Int.lt_trichotomy tl g with hlt | hlt | hlt
 ·rw [Int.max_eq_right (Int.le_of_lt hlt)]
  have hlt2:tl≤g:=Int.le_of_lt hlt
  go_enter Try.func38,Try.ntmps38
  go_wp2_with fail
  refine wp_region_held_drew (S:=fun _=>True) (by kernel_rfl) ?_ (fun hHeld=>?_)
  ·exact trivial
  refine wpAnyH_take (i:=0) (v:=?_) rfl (by kernel_rfl) (by kernel_rfl) (by kernel_rfl) (fun _ _ _ h=>h) (Or.inl ⟨by rfl,?_⟩) (by assumption) ?_
  rotate_left
  ·intro w hSw;(try dsimp only at hSw);go_simp;try with_reducible rfl
  go_simp
  refine wpAnyH_take (i:=1) (v:=?_) rfl (by kernel_rfl) (by kernel_rfl) (by kernel_rfl) (fun _ _ _ h=>h) (Or.inl ⟨by rfl,?_⟩) (by assumption) ?_
  rotate_left
  ·intro w hSw;(try dsimp only at hSw);go_simp;try with_reducible rfl
  go_simp
  refine wpAnyH_take (i:=2) (v:=?_) rfl (by kernel_rfl) (by kernel_rfl) (by kernel_rfl) (fun _ _ _ h=>h) (Or.inl ⟨by rfl,?_⟩) (by assumption) ?_
  rotate_left
  ·intro w hSw;(try dsimp only at hSw);go_simp;try with_reducible rfl
  go_simp
  refine wpAnyH_take (i:=3) (v:=?_) rfl (by kernel_rfl) (by kernel_rfl) (by kernel_rfl) (fun _ _ _ h=>h) (Or.inl ⟨by rfl,?_⟩) (by assumption) ?_
  rotate_left
  ·intro w hSw;(try dsimp only at hSw);go_simp;try with_reducible rfl
  go_simp
  refine wpAnyH_take (i:=5) (v:=?_) rfl (by kernel_rfl) (by kernel_rfl) (by kernel_rfl) (fun _ _ _ h=>h) (Or.inl ⟨by rfl,?_⟩) (by assumption) ?_
  rotate_left
  ·intro w hSw;(try dsimp only at hSw);go_simp;try with_reducible rfl
  go_simp
  refine wpAnyH_ready (rs:=[4,6]) (by kernel_rfl) (by simp) ?_
  refine AllReadyH.cons rfl (fun K hK=>?_) ?_
  ·skip
   go_simp
   refine hK.out _ _ ?_ (fun hHeld=>?_)
   ·exact trivial
   clear hK K
   go_simp
   refine wpAnyH_ready (rs:=[6]) (by kernel_rfl) (by simp) ?_
   refine AllReadyH.cons rfl (fun K hK=>?_) AllReadyH.nil
   go_simp
   refine (HG.out w.drew HH.out.drew).mono ?_
   rintro e w' ⟨rfl,q,rfl⟩
   refine hK.out _ _ ?_ (fun hHeld=>?_)
   ·exact trivial
   clear hK K
   go_simp
   refine wpAnyH_take (i:=7) (v:=?_) rfl (by kernel_rfl) (by kernel_rfl) (by kernel_rfl) (fun _ _ _ h=>h) (Or.inl ⟨by rfl,?_⟩) (by assumption) ?_
   rotate_left
   ·intro w hSw;(try dsimp only at hSw);go_simp;try with_reducible rfl
   go_simp
   refine wpAnyH_take (i:=8) (v:=?_) rfl (by kernel_rfl) (by kernel_rfl) (by kernel_rfl) (fun _ _ _ h=>h) (Or.inl ⟨by rfl,?_⟩) (by assumption) ?_
   rotate_left
   ·intro w hSw;(try dsimp only at hSw);go_simp;try with_reducible rfl
   go_simp
   refine wpAnyH_take (i:=9) (v:=?_) rfl (by kernel_rfl) (by kernel_rfl) (by kernel_rfl) (fun _ _ _ h=>h) (Or.inl ⟨by rfl,?_⟩) (by assumption) ?_
   rotate_left
   ·intro w hSw;(try dsimp only at hSw);go_simp;try with_reducible rfl
   go_simp
   refine wpAnyH_ready (rs:=[10]) (by kernel_rfl) (by simp) ?_
   refine AllReadyH.cons rfl (fun K hK=>?_) AllReadyH.nil
   go_simp
   refine hK.out _ _ ?_ (fun hHeld=>?_)
   ·exact trivial
   clear hK K
   go_simp
   refine wpAnyH_done (by kernel_rfl) ?_ _
   go_wp2_with fail
   go_ret
   exact ⟨rfl,H.out.set2 _ (1+q)⟩
  refine AllReadyH.cons rfl (fun K hK=>?_) ?_
  ·skip
   go_simp
   refine (HG.out w.drew HH.out.drew).mono ?_
   rintro e w' ⟨rfl,q,rfl⟩
   refine hK.out _ _ ?_ (fun hHeld=>?_)
   ·exact trivial
   clear hK K
   go_simp
   refine wpAnyH_ready (rs:=[4]) (by kernel_rfl) (by simp) ?_
   refine AllReadyH.cons rfl (fun K hK=>?_) AllReadyH.nil
   go_simp
   refine hK.out _ _ ?_ (fun hHeld=>?_)
   ·exact trivial
   clear hK K
   go_simp
   refine wpAnyH_take (i:=7) (v:=?_) rfl (by kernel_rfl) (by kernel_rfl) (by kernel_rfl) (fun _ _ _ h=>h) (Or.inl ⟨by rfl,?_⟩) (by assumption) ?_
   rotate_left
   ·intro w hSw;(try dsimp only at hSw);go_simp;try with_reducible rfl
   go_simp
   refine wpAnyH_take (i:=8) (v:=?_) rfl (by kernel_rfl) (by kernel_rfl) (by kernel_rfl) (fun _ _ _ h=>h) (Or.inl ⟨by rfl,?_⟩) (by assumption) ?_
   rotate_left
   ·intro w hSw;(try dsimp only at hSw);go_simp;try with_reducible rfl
   go_simp
   refine wpAnyH_take (i:=9) (v:=?_) rfl (by kernel_rfl) (by kernel_rfl) (by kernel_rfl) (fun _ _ _ h=>h) (Or.inl ⟨by rfl,?_⟩) (by assumption) ?_
   rotate_left
   ·intro w hSw;(try dsimp only at hSw);go_simp;try with_reducible rfl
   go_simp
   refine wpAnyH_ready (rs:=[10]) (by kernel_rfl) (by simp) ?_
   refine AllReadyH.cons rfl (fun K hK=>?_) AllReadyH.nil
   go_simp
   refine hK.out _ _ ?_ (fun hHeld=>?_)
   ·exact trivial
   clear hK K
   go_simp
   refine wpAnyH_done (by kernel_rfl) ?_ _
   go_wp2_with fail
   go_ret
   exact ⟨rfl,H.out.set2 _ (1+q)⟩
  exact AllReadyH.nil
 ·subst hlt
  rw [Int.max_self]
  go_enter Try.func38,Try.ntmps38
  go_wp2_with fail
  refine wp_region_held_drew (S:=fun _=>True) (by kernel_rfl) ?_ (fun hHeld=>?_)
  ·exact trivial
  refine wpAnyH_take (i:=0) (v:=?_) rfl (by kernel_rfl) (by kernel_rfl) (by kernel_rfl) (fun _ _ _ h=>h) (Or.inl ⟨by rfl,?_⟩) (by assumption) ?_
  rotate_left
  ·intro w hSw;(try dsimp only at hSw);go_simp;try with_reducible rfl
  go_simp
  refine wpAnyH_take (i:=1) (v:=?_) rfl (by kernel_rfl) (by kernel_rfl) (by kernel_rfl) (fun _ _ _ h=>h) (Or.inl ⟨by rfl,?_⟩) (by assumption) ?_
  rotate_left
  ·intro w hSw;(try dsimp only at hSw);go_simp;try with_reducible rfl
  go_simp
  refine wpAnyH_take (i:=2) (v:=?_) rfl (by kernel_rfl) (by kernel_rfl) (by kernel_rfl) (fun _ _ _ h=>h) (Or.inl ⟨by rfl,?_⟩) (by assumption) ?_
  rotate_left
  ·intro w hSw;(try dsimp only at hSw);go_simp;try with_reducible rfl
  go_simp
  refine wpAnyH_take (i:=3) (v:=?_) rfl (by kernel_rfl) (by kernel_rfl) (by kernel_rfl) (fun _ _ _ h=>h) (Or.inl ⟨by rfl,?_⟩) (by assumption) ?_
  rotate_left
  ·intro w hSw;(try dsimp only at hSw);go_simp;try with_reducible rfl
  go_simp
  refine wpAnyH_take (i:=5) (v:=?_) rfl (by kernel_rfl) (by kernel_rfl) (by kernel_rfl) (fun _ _ _ h=>h) (Or.inl ⟨by rfl,?_⟩) (by assumption) ?_
  rotate_left
  ·intro w hSw;(try dsimp only at hSw);go_simp;try with_reducible rfl
  go_simp
  refine wpAnyH_ready (rs:=[4,6]) (by kernel_rfl) (by simp) ?_
  refine AllReadyH.cons rfl (fun K hK=>?_) ?_
  ·skip
   go_simp
   refine hK.out _ _ ?_ (fun hHeld=>?_)
   ·exact trivial
   clear hK K
   go_simp
   refine wpAnyH_ready (rs:=[6]) (by kernel_rfl) (by simp) ?_
   refine AllReadyH.cons rfl (fun K hK=>?_) AllReadyH.nil
   go_simp
   refine (HG.out w.drew HH.out.drew).mono ?_
   rintro e w' ⟨rfl,q,rfl⟩
   refine hK.out _ _ ?_ (fun hHeld=>?_)
   ·exact trivial
   clear hK K
   go_simp
   refine wpAnyH_take (i:=7) (v:=?_) rfl (by kernel_rfl) (by kernel_rfl) (by kernel_rfl) (fun _ _ _ h=>h) (Or.inl ⟨by rfl,?_⟩) (by assumption) ?_
   rotate_left
   ·intro w hSw;(try dsimp only at hSw);go_simp;try with_reducible rfl
   go_simp
   refine wpAnyH_take (i:=8) (v:=?_) rfl (by kernel_rfl) (by kernel_rfl) (by kernel_rfl) (fun _ _ _ h=>h) (Or.inl ⟨by rfl,?_⟩) (by assumption) ?_
   rotate_left
   ·intro w hSw;(try dsimp only at hSw);go_simp;try with_reducible rfl
   go_simp
   refine wpAnyH_take (i:=9) (v:=?_) rfl (by kernel_rfl) (by kernel_rfl) (by kernel_rfl) (fun _ _ _ h=>h) (Or.inl ⟨by rfl,?_⟩) (by assumption) ?_
   rotate_left
   ·intro w hSw;(try dsimp only at hSw);go_simp;try with_reducible rfl
   go_simp
   refine wpAnyH_ready (rs:=[10]) (by kernel_rfl) (by simp) ?_
   refine AllReadyH.cons rfl (fun K hK=>?_) AllReadyH.nil
   go_simp
   refine hK.out _ _ ?_ (fun hHeld=>?_)
   ·exact trivial
   clear hK K
   go_simp
   refine wpAnyH_done (by kernel_rfl) ?_ _
   go_wp2_with fail
   go_ret
   exact ⟨rfl,H.out.set2 _ (1+q)⟩
  refine AllReadyH.cons rfl (fun K hK=>?_) ?_
  ·skip
   go_simp
   refine (HG.out w.drew HH.out.drew).mono ?_
   rintro e w' ⟨rfl,q,rfl⟩
   refine hK.out _ _ ?_ (fun hHeld=>?_)
   ·exact trivial
   clear hK K
   go_simp
   refine wpAnyH_ready (rs:=[4]) (by kernel_rfl) (by simp) ?_
   refine AllReadyH.cons rfl (fun K hK=>?_) AllReadyH.nil
   go_simp
   refine hK.out _ _ ?_ (fun hHeld=>?_)
   ·exact trivial
   clear hK K
   go_simp
   refine wpAnyH_take (i:=7) (v:=?_) rfl (by kernel_rfl) (by kernel_rfl) (by kernel_rfl) (fun _ _ _ h=>h) (Or.inl ⟨by rfl,?_⟩) (by assumption) ?_
   rotate_left
   ·intro w hSw;(try dsimp only at hSw);go_simp;try with_reducible rfl
   go_simp
   refine wpAnyH_take (i:=8) (v:=?_) rfl (by kernel_rfl) (by kernel_rfl) (by kernel_rfl) (fun _ _ _ h=>h) (Or.inl ⟨by rfl,?_⟩) (by assumption) ?_
   rotate_left
   ·intro w hSw;(try dsimp only at hSw);go_simp;try with_reducible rfl
   go_simp
   refine wpAnyH_take (i:=9) (v:=?_) rfl (by kernel_rfl) (by kernel_rfl) (by kernel_rfl) (fun _ _ _ h=>h) (Or.inl ⟨by rfl,?_⟩) (by assumption) ?_
   rotate_left
   ·intro w hSw;(try dsimp only at hSw);go_simp;try with_reducible rfl
   go_simp
   refine wpAnyH_ready (rs:=[10]) (by kernel_rfl) (by simp) ?_
   refine AllReadyH.cons rfl (fun K hK=>?_) AllReadyH.nil
   go_simp
   refine hK.out _ _ ?_ (fun hHeld=>?_)
   ·exact trivial
   clear hK K
   go_simp
   refine wpAnyH_done (by kernel_rfl) ?_ _
   go_wp2_with fail
   go_ret
   exact ⟨rfl,H.out.set2 _ (1+q)⟩
  exact AllReadyH.nil
 ·rw [Int.max_eq_left (Int.le_of_lt hlt)]
  have hlt2:¬ tl≤g:=by omega
  have hlt3:¬ tl<g:=by omega
  go_enter Try.func38,Try.ntmps38
  go_wp2_with fail
  refine wp_region_held_drew (S:=fun _=>True) (by kernel_rfl) ?_ (fun hHeld=>?_)
  ·exact trivial
  refine wpAnyH_take (i:=0) (v:=?_) rfl (by kernel_rfl) (by kernel_rfl) (by kernel_rfl) (fun _ _ _ h=>h) (Or.inl ⟨by rfl,?_⟩) (by assumption) ?_
  rotate_left
  ·intro w hSw;(try dsimp only at hSw);go_simp;try with_reducible rfl
  go_simp
  refine wpAnyH_take (i:=1) (v:=?_) rfl (by kernel_rfl) (by kernel_rfl) (by kernel_rfl) (fun _ _ _ h=>h) (Or.inl ⟨by rfl,?_⟩) (by assumption) ?_
  rotate_left
  ·intro w hSw;(try dsimp only at hSw);go_simp;try with_reducible rfl
  go_simp
  refine wpAnyH_take (i:=2) (v:=?_) rfl (by kernel_rfl) (by kernel_rfl) (by kernel_rfl) (fun _ _ _ h=>h) (Or.inl ⟨by rfl,?_⟩) (by assumption) ?_
  rotate_left
  ·intro w hSw;(try dsimp only at hSw);go_simp;try with_reducible rfl
  go_simp
  refine wpAnyH_take (i:=3) (v:=?_) rfl (by kernel_rfl) (by kernel_rfl) (by kernel_rfl) (fun _ _ _ h=>h) (Or.inl ⟨by rfl,?_⟩) (by assumption) ?_
  rotate_left
  ·intro w hSw;(try dsimp only at hSw);go_simp;try with_reducible rfl
  go_simp
  refine wpAnyH_take (i:=5) (v:=?_) rfl (by kernel_rfl) (by kernel_rfl) (by kernel_rfl) (fun _ _ _ h=>h) (Or.inl ⟨by rfl,?_⟩) (by assumption) ?_
  rotate_left
  ·intro w hSw;(try dsimp only at hSw);go_simp;try with_reducible rfl
  go_simp
  refine wpAnyH_ready (rs:=[4,6]) (by kernel_rfl) (by simp) ?_
  refine AllReadyH.cons rfl (fun K hK=>?_) ?_
  ·skip
   go_simp
   refine hK.out _ _ ?_ (fun hHeld=>?_)
   ·exact trivial
   clear hK K
   go_simp
   refine wpAnyH_ready (rs:=[6]) (by kernel_rfl) (by simp) ?_
   refine AllReadyH.cons rfl (fun K hK=>?_) AllReadyH.nil
   go_simp
   refine (HG.out w.drew HH.out.drew).mono ?_
   rintro e w' ⟨rfl,q,rfl⟩
   refine hK.out _ _ ?_ (fun hHeld=>?_)
   ·exact trivial
   clear hK K
   go_simp
   refine wpAnyH_take (i:=7) (v:=?_) rfl (by kernel_rfl) (by kernel_rfl) (by kernel_rfl) (fun _ _ _ h=>h) (Or.inl ⟨by rfl,?_⟩) (by assumption) ?_
   rotate_left
   ·intro w hSw;(try dsimp only at hSw);go_simp;try with_reducible rfl
   go_simp
   refine wpAnyH_take (i:=8) (v:=?_) rfl (by kernel_rfl) (by kernel_rfl) (by kernel_rfl) (fun _ _ _ h=>h) (Or.inl ⟨by rfl,?_⟩) (by assumption) ?_
   rotate_left
   ·intro w hSw;(try dsimp only at hSw);go_simp;try with_reducible rfl
   go_simp
   refine wpAnyH_take (i:=9) (v:=?_) rfl (by kernel_rfl) (by kernel_rfl) (by kernel_rfl) (fun _ _ _ h=>h) (Or.inl ⟨by rfl,?_⟩) (by assumption) ?_
   rotate_left
   ·intro w hSw;(try dsimp only at hSw);go_simp;try with_reducible rfl
   go_simp
   refine wpAnyH_ready (rs:=[10]) (by kernel_rfl) (by simp) ?_
   refine AllReadyH.cons rfl (fun K hK=>?_) AllReadyH.nil
   go_simp
   refine hK.out _ _ ?_ (fun hHeld=>?_)
   ·exact trivial
   clear hK K
   go_simp
   refine wpAnyH_done (by kernel_rfl) ?_ _
   go_wp2_with fail
   go_ret
   exact ⟨rfl,H.out.set2 _ (1+q)⟩
  refine AllReadyH.cons rfl (fun K hK=>?_) ?_
  ·skip
   go_simp
   refine (HG.out w.drew HH.out.drew).mono ?_
   rintro e w' ⟨rfl,q,rfl⟩
   refine hK.out _ _ ?_ (fun hHeld=>?_)
   ·exact trivial
   clear hK K
   go_simp
   refine wpAnyH_ready (rs:=[4]) (by kernel_rfl) (by simp) ?_
   refine AllReadyH.cons rfl (fun K hK=>?_) AllReadyH.nil
   go_simp
   refine hK.out _ _ ?_ (fun hHeld=>?_)
   ·exact trivial
   clear hK K
   go_simp
   refine wpAnyH_take (i:=7) (v:=?_) rfl (by kernel_rfl) (by kernel_rfl) (by kernel_rfl) (fun _ _ _ h=>h) (Or.inl ⟨by rfl,?_⟩) (by assumption) ?_
   rotate_left
   ·intro w hSw;(try dsimp only at hSw);go_simp;try with_reducible rfl
   go_simp
   refine wpAnyH_take (i:=8) (v:=?_) rfl (by kernel_rfl) (by kernel_rfl) (by kernel_rfl) (fun _ _ _ h=>h) (Or.inl ⟨by rfl,?_⟩) (by assumption) ?_
   rotate_left
   ·intro w hSw;(try dsimp only at hSw);go_simp;try with_reducible rfl
   go_simp
   refine wpAnyH_take (i:=9) (v:=?_) rfl (by kernel_rfl) (by kernel_rfl) (by kernel_rfl) (fun _ _ _ h=>h) (Or.inl ⟨by rfl,?_⟩) (by assumption) ?_
   rotate_left
   ·intro w hSw;(try dsimp only at hSw);go_simp;try with_reducible rfl
   go_simp
   refine wpAnyH_ready (rs:=[10]) (by kernel_rfl) (by simp) ?_
   refine AllReadyH.cons rfl (fun K hK=>?_) AllReadyH.nil
   go_simp
   refine hK.out _ _ ?_ (fun hHeld=>?_)
   ·exact trivial
   clear hK K
   go_simp
   refine wpAnyH_done (by kernel_rfl) ?_ _
   go_wp2_with fail
   go_ret
   exact ⟨rfl,H.out.set2 _ (1+q)⟩
  exact AllReadyH.nil
end
end Go.Proofs.Ytoahkffdoaphlaa.Cr
