/- Joined texts. Conditions: as each theorem lists them. -/
import Derived.Test.YtccljifichaieaaDoorJLaw1
import Derived.Test.YtccljifichaieaaDoorJLp
import Derived.Test.YtccljifichaieaaDoorJVg
import Derived.Test.YtccljifichaieaaDoorJVk
set_option linter.unusedSimpArgs false
set_option linter.unusedVariables false
set_option maxRecDepth 100000
set_option maxHeartbeats 8000000
namespace Go.Proofs.YtccljifichaieaaDoor.PTellsL
open Go Go.RowKit Go.ChangeShapes Go.WideShapes Go.ChangeAt Go.WideMaps Go.WideElems
theorem lifted (os:Os) (started:os.Started) (H:Type) (enc:TypeId × Value→H) :
  ReturnsInHanded {} Tryd.checked os 3 .any (fun w args=>(Rows.packetTellsSpec.pre enc Tryd.prog Tryd.f3 [] false w args∧laidMetH Tryd.prog laids w)∧sizedMet enc Tryd.prog Tryd.f3 (OpenSpec.ofChange Rows.packetTellsSpec) false w args)
   (Rows.packetTellsSpec.post enc Tryd.prog Tryd.f3 false true false false):=by
 refine returnsInHanded_of_change_and (C:=Tryd.checked) (X:=fun w _=>laidMetH Tryd.prog laids w) (fun _ _ _ hh h=>h.of_heap hh) own started (by kernel_rfl) Tryd.func3
  (ChangeSpec.witness_shaped (enc:=enc) (C:=Tryd.checked) (os:=os) (X:=fun w _=>laidMetH Tryd.prog laids w) false (World.doorLaid Tryd.prog 400 os) #[.int .u64 0,.int .i64 0,.int .i64 0,.int .i64 0,.slice none 0 0,.slice none 0 0,.int .i64 0,.int .u8 0,.bool false] 8 rfl (World.shaped_of_RefB (by kernel_rfl) (by kernel_rfl)) (by kernel_rfl) (by kernel_rfl) (by kernel_rfl) (door_met os _)) ?_
 intro W base args ds gs before hval0 hW hcnd hsz hL _
 have hval:∀ (j:Nat) t v,Tryd.f3.params[j]?=some t→args[j]?=some v→Value.okWide Tryd.prog W .any base t v:=hval0
 have hsz':(DataW.weightsEach Tryd.prog (Tryd.f3.params.toList ++ Rows.packetTellsSpec.plain.varTypes Tryd.prog) (ds ++ gs)).all (·≤reachBytes)=true:=hsz
 have hW':=hW
 obtain ⟨p,q,hA0,hV,rfl,hfz,hnd⟩:=hW
 have hA:DataW.TrodAll enc Tryd.prog W 0 (fun _=>true) true Tryd.f3.params.toList args.toList ds p:=hA0
 rw [Tryd.params3] at hA hval hsz'
 obtain ⟨v0,vs0,d0,ds0,p0,q0,hargs,rfl,rfl,h0,r0⟩:=trodAll_cons hA
 obtain ⟨v1,vs1,d1,ds1,p1,q1,rfl,rfl,rfl,h1,r1⟩:=trodAll_cons r0
 obtain ⟨v2,vs2,d2,ds2,p2,q2,rfl,rfl,rfl,h2,r2⟩:=trodAll_cons r1
 obtain ⟨v3,vs3,d3,ds3,p3,q3,rfl,rfl,rfl,h3,r3⟩:=trodAll_cons r2
 obtain ⟨v4,vs4,d4,ds4,p4,q4,rfl,rfl,rfl,h4,r4⟩:=trodAll_cons r3
 obtain ⟨v5,vs5,d5,ds5,p5,q5,rfl,rfl,rfl,h5,r5⟩:=trodAll_cons r4
 obtain ⟨v6,vs6,d6,ds6,p6,q6,rfl,rfl,rfl,h6,r6⟩:=trodAll_cons r5
 obtain ⟨v7,vs7,d7,ds7,p7,q7,rfl,rfl,rfl,h7,r7⟩:=trodAll_cons r6
 obtain ⟨v8,vs8,d8,ds8,p8,q8,rfl,rfl,rfl,h8,r8⟩:=trodAll_cons r7
 obtain ⟨rfl,rfl,rfl⟩:=trodAll_nil r8
 obtain rfl:args=#[v0,v1,v2,v3,v4,v5,v6,v7,v8]:=by cases args;simp_all
 obtain ⟨rfl,rfl⟩:=trodVars_none hV
 obtain ⟨a0,rfl,rfl,rfl,w0⟩:=open_int Tryd.underlying22 (hval 0 _ v0 rfl rfl) h0
 have b0:=bounds_u64 w0
 obtain ⟨k0,rfl⟩:=Int.eq_ofNat_of_zero_le b0.1
 have u0:k0<2 ^ 64:=by have:=b0.2;omega
 obtain ⟨a1,rfl,rfl,rfl,w1⟩:=open_int Tryd.underlying3 (hval 1 _ v1 rfl rfl) h1
 have b1:=bounds_i64 w1
 obtain ⟨a2,rfl,rfl,rfl,w2⟩:=open_int Tryd.underlying3 (hval 2 _ v2 rfl rfl) h2
 have b2:=bounds_i64 w2
 obtain ⟨a3,rfl,rfl,rfl,w3⟩:=open_int Tryd.underlying3 (hval 3 _ v3 rfl rfl) h3
 have b3:=bounds_i64 w3
 obtain ⟨A4,c4,n4,l4,rfl,w4⟩:=open_raws (hval 4 _ v4 rfl rfl) h4 hsz' 4 rfl rfl
 obtain ⟨A5,c5,l5,rfl,w5⟩:=open_bytes (hval 5 _ v5 rfl rfl) h5 hsz' 5 rfl rfl
 obtain ⟨a6,rfl,rfl,rfl,w6⟩:=open_int Tryd.underlying3 (hval 6 _ v6 rfl rfl) h6
 have b6:=bounds_i64 w6
 obtain ⟨a7,rfl,rfl,rfl,w7⟩:=open_int Tryd.underlying5 (hval 7 _ v7 rfl rfl) h7
 have b7:=bounds_u8 w7
 obtain ⟨k7,rfl⟩:=Int.eq_ofNat_of_zero_le b7.1
 have u7:k7<256:=by have:=b7.2;omega
 obtain ⟨a8,rfl,rfl,rfl⟩:=open_bool Tryd.underlying4 (hval 8 _ v8 rfl rfl) h8
 refine (Rv.ptells_walk k0 a1 a2 a3 A4 n4 c4 l4 A5 c5 l5 a6 k7 a8 W b1 b6 u0 u7 (tabs_of hL (Below.refl _ _)) (Lib.hid (fun _ hV=>known6_any hL hV)) w4 w5).mono fun e W' ⟨he,hb⟩=>?_
 subst he
 exact ⟨_,rfl,Lp.law_post laidOut (by rw [Tryd.params3];decide +kernel) rfl Tryd.underlying4 rfl hW' rfl rfl rfl hb⟩
theorem said:Rows.PacketTellsSaid :=
 OpenClaim.holds_of_wide 3 Tryd.f3 rfl rfl rfl rfl rfl rfl rfl ⟨rfl,rfl,rfl,rfl,rfl⟩ rfl rfl rfl rfl rfl (by kernel_rfl) Tryd.func3 (by kernel_rfl)
  (of_decide_eq_true (by kernel_rfl)) (by unfold Func.isWrapper;first | (rw [if_pos (by decide +kernel)];kernel_rfl) | (rw [if_neg (by decide +kernel)];exact ⟨rfl,rfl⟩))
  (fun os started H enc _=>lifted os started H enc)
end Go.Proofs.YtccljifichaieaaDoor.PTellsL
namespace Go.Proofs.YtccljifichaieaaDoor
open Go Go.RowKit
theorem packetTells_holds:Rows.PacketTellsCardSaid :=
 Claim7.holds_tied_plain_at .later [] [.data,.data] true (true,Rows.packetTellsCard.stood.harness.2) false
  PTellsL.said (fun _ h=>by cases h) (by kernel_rfl) (fun _ h=>by cases h) packetTells_row_tie rfl ⟨rfl,rfl⟩ (by kernel_rfl) rfl
  (fun f fn hf hfn=>by
   obtain rfl:f=3:=Option.some.inj ((show Tryd.prog.funcNamed "argosy/argosylaw6.PacketTells"=some 3 by kernel_rfl).symm.trans hf) |>.symm
   obtain rfl:fn=Tryd.f3:=(Option.some.inj (Tryd.func3.symm.trans hfn)).symm
   exact ⟨by kernel_rfl,fun j t ht=>by
    rw [Tryd.params3] at ht
    have hm:t ∈ [22,3,3,3,23,24,3,5,4]:=by simpa using Array.mem_of_getElem? ht
    have hall:([22,3,3,3,23,24,3,5,4].all fun u=>!Tryd.prog.wantsStandIn u)=true:=by kernel_rfl
    exact (show Tryd.prog.wantsStandIn t=false by simpa using List.all_eq_true.1 hall t hm)⟩)
  (by kernel_rfl)
#print axioms packetTells_holds
end Go.Proofs.YtccljifichaieaaDoor
