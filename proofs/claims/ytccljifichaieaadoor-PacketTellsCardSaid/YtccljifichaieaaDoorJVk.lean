/- Joined texts. Conditions: as each theorem lists them. -/
import Derived.Test.YtccljifichaieaaDoorJ10b
import Derived.Test.YtccljifichaieaaDoorJLaw1
import Derived.Test.YtccljifichaieaaDoorJ5
import Derived.Test.YtccljifichaieaaDoorJ3c
set_option linter.unusedSimpArgs false
set_option linter.unusedVariables false
set_option maxRecDepth 100000
set_option maxHeartbeats 8000000
namespace Go.Proofs.YtccljifichaieaaDoor
open Go Go.RowKit
theorem tabs_of {W w:World} (h:laidMetH Tryd.prog laids W) (hb:Below W.heap.size W w):Tabs w:=by
 have c2:=fun i hi=>(tabs h).2.cell (g:=1) (by kernel_rfl) i hi
 have key:∀ (i:Nat) (u:Value),W.cell? ⟨1,i,none⟩=some u→w.cell? ⟨1,i,none⟩=some u:=fun i u hu=>(hb.cell (p:=⟨1,i,none⟩) (block_lt_of_cell hu)).trans hu
 exact ⟨key _ _ (c2 0 (by decide)),key _ _ (c2 1 (by decide)),key _ _ (c2 3 (by decide)),key _ _ (c2 7 (by decide))⟩
theorem ping_ok:OkF ping:=by
 constructor <;> first | decide | (intros;rfl) | exact .inr ⟨by decide,rfl⟩
theorem ping_lay:layF [ping]=[1]:=by decide
theorem known6_any {W w:World} (h:laidMetH Tryd.prog laids W) (hb:Below W.heap.size W w):Calls Tryd.prog 17 #[] w fun e w'=>e=.returned (.bool true)∧Below w.heap.size w w':=by
 have HT:=Lib.hid (tabs_of h hb)
 have hk1:kN 3 2=1:=by decide
 have hk0:kN 0 (-1)=1:=by decide
 have HFR:Hid (Frs (w.alloc (.cells #[.int .i64 1,.int .i64 0,.int .i64 0,.int .i64 0,.int .i64 0,.int .i64 0,.bool false,.slice none 0 0,.slice none 0 0] 44)) (some ⟨w.heap.size,0,none⟩) 1 1 [ping]) :=
  ⟨rfl,Nat.le_refl _,_,rd_new _ _ _ _ _ _ _ rfl (by simp) rfl rfl,_,_,(List.append_nil _).symm,ping_cells _,rfl⟩
 have HLA:=Lib.hid (pkLay_any 7 3 2 [ping] _ 1 1 _ (HT.out.alloc _) HFR.out (by simpa using ping_ok) (by omega) (by decide) (by decide) (by decide) (by decide))
 unfold PkP at HLA
 rw [ping_lay,hk1] at HLA
 have HRM:=Lib.hid (fun W=>room_any 0 (-1) W (by omega) (by omega))
 rw [hk0] at HRM
 clear h hb
 go_enter Tryd.func17,Tryd.ntmps17
 go_wp2_with fail
 refine HLA.out.mono ?_
 rintro e w1 ⟨hb1,h1,_⟩
 obtain ⟨A,c,rfl,hown⟩:=h1 (by decide)
 have HB1:Hid (Below w.heap.size w w1):=((Below.refl _ _).alloc (Nat.le_refl _) _).trans (hb1.mono (by simp))
 obtain ⟨_,_,ev,hnc,_,_,hrd⟩:=own_form hown
 simp only [Value.slice.injEq] at ev
 obtain ⟨rfl,_,rfl⟩:=ev
 rw [Nat.mul_one] at hrd
 have HRD:=Lib.hid hrd
 obtain ⟨b,off,rfl,hbl,hcell⟩:=hrd.2 (by omega)
 have HC0:Hid (∀ W,Below w1.heap.size w1 W→W.cell? ⟨b,off,none⟩=some (.int .u8 64)∧W.cell? ⟨b,off+1,none⟩=some (.int .u8 3)):=fun W hW=>by
  have e0:=hcell 0 (.int .u8 64) (by show some (Value.int .u8 ((64:Nat):Int))=_;rfl)
  have e1:=hcell 1 (.int .u8 3) (by show some (Value.int .u8 (((digs (cutN 3 (kN 3 2)) (kN 3 2) (kN 3 2)).getD 0 0:Nat):Int))=_;rw [show (digs (cutN 3 (kN 3 2)) (kN 3 2) (kN 3 2)).getD 0 0=3 by decide];rfl)
  exact ⟨(hW.cell (p:=⟨b,off,none⟩) hbl).trans e0,(hW.cell (p:=⟨b,off+1,none⟩) hbl).trans e1⟩
 have HRE:=Lib.hid (pkRead_laid 7 3 2 3 [ping] (some ⟨b,off,none⟩) c w1 (by simpa using ping_ok) (by decide) (by rw [hk1];decide) (by rw [ping_lay,hk1];exact HRD.out) (by rw [ping_lay,hk1];exact hnc) (by decide))
 rw [ping_lay,hk1] at HRE
 have hci:(11:Int)≤(c:Int):=by have:=hnc;simp at this;omega
 clear hb1 h1 hown hrd hcell hnc HLA HRD hk0 hk1
 go_wp2_with fail
 refine HRE.out.mono ?_
 rintro e w2 ⟨hb2,_,h2⟩
 obtain ⟨Ag,cg,rfl,_⟩:=h2 (by simp)
 obtain ⟨g0,g1⟩:=HC0.out w2 hb2
 have HB2:Hid (Below w.heap.size w w2):=HB1.out.trans (hb2.mono HB1.out.size)
 clear h2 hb2 HRE
 go_wp2_with fail
 refine (HRM.out _).mono ?_;rintro e w' ⟨rfl,rfl⟩
 go_wp2_with fail
 go_ret
 exact ⟨ret_bool (by simp),HB2.out⟩
end Go.Proofs.YtccljifichaieaaDoor
