/- Joined texts. Conditions: as each theorem lists them. -/
import Derived.Test.YtoahkffdoaphlaaJVa
set_option linter.unusedSimpArgs false
set_option linter.unusedVariables false
set_option maxRecDepth 100000
set_option maxHeartbeats 80000000
namespace Go.Proofs.Ytoahkffdoaphlaa.Re
open Go Go.RowKit Go.Proofs.Ytoahkffdoaphlaa Go.Proofs.Ytoahkffdoaphlaa.Sp Go.Proofs.Ytoahkffdoaphlaa.Sp.Ref Go.Proofs.Ytoahkffdoaphlaa.Se Go.Maps
def overR (r:Rq):Int:=if r.br && decide (r.tk ≥ r.sure) then 2 else if !r.br && decide (r.en ≥ 0) && decide (r.tk=r.en) then 1 else 0
def withT (r:Rq) (t:Int):Rq:=⟨r.es,r.rm,r.rd,r.tl,r.bl,t,r.en,r.code,r.sure,r.br,r.tk,r.ov⟩
def withG (r:Rq) (rd tl:Int):Rq:=⟨r.es,r.rm,rd,tl,r.bl,r.top,r.en,r.code,r.sure,r.br,r.tk,r.ov⟩
def newRq:Rq:=⟨[],400,0,400,[],0,-1,0,0,false,0,0⟩
section
variable {w w':World} {q:Nat} {F G:List Nat} {v0 v4 v:Value} {r r':Rq}
theorem rrise_rv (h:RvIn w q G v0 v4 r) (ht:0≤r.top∧r.top≤4611686018427387903) (z:Int) (hz:0≤z∧z≤4611686018427387903):Calls Try.prog 91 #[.pointer (some ⟨q,0,none⟩),.int .i64 z] w fun e w'=>e=.returned (.int .i64 (max 0 (z - r.top)))∧RvTo w w' q G (withT r (r.top+max 0 (z - r.top))):=by
 obtain ⟨_,_,_,_,_,hc5,_⟩:=h.cells
 have hf:=h.free 5
 have hw1:IntKind.i64.wrap (z - r.top)=z - r.top:=IntWalk.i64_in _ (by omega)
 obtain ⟨u,hu⟩:∃ x,max 0 (z - r.top)=x:=⟨_,rfl⟩
 have hw2:IntKind.i64.wrap (r.top+u)=r.top+u:=IntWalk.i64_in _ (by omega)
 have HN:=Lib.hid (h.putTo (withT r (r.top+u)) 5 (.int .i64 (r.top+u)) rfl rfl rfl)
 obtain ⟨rr,hr⟩:∃ x,withT r (r.top+u)=x:=⟨_,rfl⟩
 obtain ⟨a,ha⟩:∃ x,r.top=x:=⟨_,rfl⟩
 rw [hu,hr]
 rw [hr] at HN
 rw [ha] at HN hu hw1 hw2 hc5
 clear h ht hz hr ha
 go_enter Try.func91,Try.ntmps91
 go_wp2_with fail
 go_ret
 exact ⟨rfl,HN.out⟩
theorem rover_rv (h:RvIn w q G v0 v4 r):Calls Try.prog 86 #[.pointer (some ⟨q,0,none⟩)] w fun e w'=>e=.returned (.int .i64 (overR r))∧∃ m,w'=w.drewN m:=by
 obtain ⟨_,_,_,_,_,_,hc6,_,hc8,hc9,hc10,_⟩:=h.cells
 have HD:Hid (overR r=if r.br && decide (r.sure≤r.tk) then 2 else if !r.br && decide (0≤r.en) && decide (r.tk=r.en) then 1 else 0):=rfl
 obtain ⟨x,hx⟩:∃ x,overR r=x:=⟨_,rfl⟩
 obtain ⟨tk,htk⟩:∃ x,r.tk=x:=⟨_,rfl⟩
 obtain ⟨br,hbr⟩:∃ x,r.br=x:=⟨_,rfl⟩
 obtain ⟨en,hen⟩:∃ x,r.en=x:=⟨_,rfl⟩
 obtain ⟨sure,hsu⟩:∃ x,r.sure=x:=⟨_,rfl⟩
 rw [hx,htk,hbr,hen,hsu] at HD
 rw [hx]
 rw [hen] at hc6
 rw [hsu] at hc8
 rw [hbr] at hc9
 rw [htk] at hc10
 clear h hx htk hbr hen hsu
 cases br
 ·by_cases h0:0≤en
  ·by_cases h2:tk=en
   ·obtain rfl:x=1:=by rw [HD.out];simp [h0,h2]
    clear HD
    subst h2
    go_enter Try.func86,Try.ntmps86
    go_upto_region 1 with (fail)
    go_quiet (fail)
    go_upto_region 3 with (fail)
    obtain ⟨w1,hw1⟩:∃ x,w.drewN nq=x:=⟨_,rfl⟩
    have d6:w1.cell? ⟨q,6,none⟩=some (.int .i64 tk):=by rw [← hw1];exact hc6
    have d8:w1.cell? ⟨q,8,none⟩=some (.int .i64 sure):=by rw [← hw1];exact hc8
    have d9:w1.cell? ⟨q,9,none⟩=some (.bool false):=by rw [← hw1];exact hc9
    have d10:w1.cell? ⟨q,10,none⟩=some (.int .i64 tk):=by rw [← hw1];exact hc10
    have HW:Hid (∃ z,w1=w.drewN z):=⟨nq,hw1.symm⟩
    rw [hw1]
    clear hw1 hc6 hc8 hc9 hc10
    go_quiet (fail)
    go_wp2_with fail
    go_ret
    obtain ⟨z,hz⟩:=HW.out
    exact ⟨rfl,z+nq,by rw [hz,World.drewN_drewN]⟩
   ·obtain rfl:x=0:=by rw [HD.out];simp [h2]
    clear HD
    have h2b:(tk == en)=false:=by simpa using h2
    go_enter Try.func86,Try.ntmps86
    go_upto_region 1 with (fail)
    go_quiet (fail)
    go_upto_region 3 with (fail)
    obtain ⟨w1,hw1⟩:∃ x,w.drewN nq=x:=⟨_,rfl⟩
    have d6:w1.cell? ⟨q,6,none⟩=some (.int .i64 en):=by rw [← hw1];exact hc6
    have d8:w1.cell? ⟨q,8,none⟩=some (.int .i64 sure):=by rw [← hw1];exact hc8
    have d9:w1.cell? ⟨q,9,none⟩=some (.bool false):=by rw [← hw1];exact hc9
    have d10:w1.cell? ⟨q,10,none⟩=some (.int .i64 tk):=by rw [← hw1];exact hc10
    have HW:Hid (∃ z,w1=w.drewN z):=⟨nq,hw1.symm⟩
    rw [hw1]
    clear hw1 hc6 hc8 hc9 hc10
    go_quiet (fail)
    go_wp2_with fail
    go_ret
    obtain ⟨z,hz⟩:=HW.out
    exact ⟨rfl,z+nq,by rw [hz,World.drewN_drewN]⟩
  ·obtain rfl:x=0:=by rw [HD.out];simp [h0]
   clear HD
   go_enter Try.func86,Try.ntmps86
   go_upto_region 1 with (fail)
   go_quiet (fail)
   go_upto_region 3 with (fail)
   obtain ⟨w1,hw1⟩:∃ x,w.drewN nq=x:=⟨_,rfl⟩
   have d6:w1.cell? ⟨q,6,none⟩=some (.int .i64 en):=by rw [← hw1];exact hc6
   have d8:w1.cell? ⟨q,8,none⟩=some (.int .i64 sure):=by rw [← hw1];exact hc8
   have d9:w1.cell? ⟨q,9,none⟩=some (.bool false):=by rw [← hw1];exact hc9
   have d10:w1.cell? ⟨q,10,none⟩=some (.int .i64 tk):=by rw [← hw1];exact hc10
   have HW:Hid (∃ z,w1=w.drewN z):=⟨nq,hw1.symm⟩
   rw [hw1]
   clear hw1 hc6 hc8 hc9 hc10
   go_quiet (fail)
   go_wp2_with fail
   go_ret
   obtain ⟨z,hz⟩:=HW.out
   exact ⟨rfl,z+nq,by rw [hz,World.drewN_drewN]⟩
 ·by_cases h1:sure≤tk
  ·obtain rfl:x=2:=by rw [HD.out];simp [h1]
   clear HD
   go_enter Try.func86,Try.ntmps86
   go_upto_region 1 with (fail)
   go_quiet (fail)
   go_wp2_with fail
   go_ret
   exact ⟨rfl,_,rfl⟩
  ·obtain rfl:x=0:=by rw [HD.out];simp [h1]
   clear HD
   go_enter Try.func86,Try.ntmps86
   go_upto_region 1 with (fail)
   go_quiet (fail)
   go_upto_region 3 with (fail)
   obtain ⟨w1,hw1⟩:∃ x,w.drewN nq=x:=⟨_,rfl⟩
   have d6:w1.cell? ⟨q,6,none⟩=some (.int .i64 en):=by rw [← hw1];exact hc6
   have d8:w1.cell? ⟨q,8,none⟩=some (.int .i64 sure):=by rw [← hw1];exact hc8
   have d9:w1.cell? ⟨q,9,none⟩=some (.bool true):=by rw [← hw1];exact hc9
   have d10:w1.cell? ⟨q,10,none⟩=some (.int .i64 tk):=by rw [← hw1];exact hc10
   have HW:Hid (∃ z,w1=w.drewN z):=⟨nq,hw1.symm⟩
   rw [hw1]
   clear hw1 hc6 hc8 hc9 hc10
   go_quiet (fail)
   go_wp2_with fail
   go_ret
   obtain ⟨z,hz⟩:=HW.out
   exact ⟨rfl,z+nq,by rw [hz,World.drewN_drewN]⟩
theorem rtell_rv (h:RvIn w q G v0 v4 r) (hrd:0≤r.rd) (hrm:0≤r.rm) (hs:r.rd+r.rm≤9223372036854775807) :
  Calls Try.prog 39 #[.pointer (some ⟨q,1,none⟩)] w fun e w'=>e=.returned (.int .i64 (max r.tl (r.rd+r.rm)))∧RvTo w w' q G (withG r r.rd (max r.tl (r.rd+r.rm))):=by
 refine (Cr.rtell_any h.gr hrd hrm hs).mono ?_
 rintro e w' ⟨rfl,hc⟩
 exact ⟨rfl,h.toGr hc⟩
theorem reat_rv (h:RvIn w q G v0 v4 r) (hrd:0≤r.rd∧r.rd≤9223372036853727231) (n:Int) :
  Calls Try.prog 85 #[.pointer (some ⟨q,1,none⟩),.int .i64 n] w fun e w'=>e=.returned (.tuple #[])∧RvTo w w' q G (withG r (r.rd+Cr.eatF n) r.tl):=by
 refine (Cr.reat_any h.gr hrd n).mono ?_
 rintro e w' ⟨rfl,hc⟩
 exact ⟨rfl,h.toGr hc⟩
theorem rcount_rv (h:RvIn w q G v0 v4 r) (hl:r.es.length≤8796093022208) :
  Calls Try.prog 49 #[.pointer (some ⟨q,0,none⟩)] w fun e w'=>e=.returned (.int .i64 (cnt r.es))∧Below w.heap.size w w':=rcount_any _ q 0 _ _ w h.setIn (by omega)
theorem rhas_rv (h:RvIn w q G v0 v4 r) (hl:r.es.length≤8796093022208) (z:Int) :
  Calls Try.prog 51 #[.pointer (some ⟨q,0,none⟩),.int .i64 z] w fun e w'=>e=.returned (.bool (mem r.es z))∧w'=w:=(rhas_any _ q 0 _ _ z w h.setIn (by omega)).mono fun _ _ h=>⟨h.1,h.2.symm⟩
theorem rfirst_rv (h:RvIn w q G v0 v4 r) (hl:r.es.length≤8796093022208) (z:Int) :
  Calls Try.prog 83 #[.pointer (some ⟨q,0,none⟩),.int .i64 z] w fun e w'=>e=.returned (.int .i64 (firstF r.es (max z 0)))∧w'=w:=(rfirst_any _ q 0 _ _ z w h.setIn (by omega)).mono fun _ _ h=>⟨h.1,h.2.symm⟩
theorem rall_rv (h:RvIn w q G v0 v4 r) (hl:r.es.length≤4398046511100) (f t:Int) :
  Calls Try.prog 76 #[.pointer (some ⟨q,0,none⟩),.int .i64 f,.int .i64 t] w fun e w'=>e=.returned (.bool (allF r.es f t))∧Below w.heap.size w w':=rall_any _ q 0 _ _ f t w h.setIn (by omega)
theorem radd_rv (h:RvIn w q G v0 v4 r) (hl:r.es.length≤4398046511000) (f t:Int) :
  Calls Try.prog 61 #[.pointer (some ⟨q,0,none⟩),.int .i64 f,.int .i64 t] w fun e w'=>e=.returned (.tuple #[])∧RvTo w w' q G ⟨turn r.es f t true,r.rm,r.rd,r.tl,r.bl,r.top,r.en,r.code,r.sure,r.br,r.tk,r.ov⟩ :=
 (radd_new _ q 0 _ _ f t w h.setIn (by omega)).mono fun e w' ⟨h1,⟨v,h2,h3⟩,h4⟩=>⟨h1,h.toSet h4 h2 h3⟩
end
theorem rnew_rv (w:World) :
  Calls Try.prog 33 #[] w fun e w'=>∃ q G v0 v4,e=.returned (.pointer (some ⟨q,0,none⟩))∧RvIn w' q G v0 v4 newRq∧(∀ k ∈ G,w.heap.size≤k)∧Below w.heap.size w w':=by
 have HG:=Lib.hid (fun W=>Cr.rnewgrant_any W 400)
 rw [show Cr.roomF 400=400 from rfl] at HG
 go_enter Try.func33,Try.ntmps33
 go_wp2_with fail
 refine (HG.out _).mono ?_
 rintro e w1 ⟨rfl,hb⟩
 have HB:=Lib.hid hb
 clear hb
 go_wp2_with fail
 go_ret
 refine ⟨w1.heap.size,[w1.heap.size],.slice none 0 0,.slice none 0 0,rfl,⟨heap_alloc_new w1 _,?_,by simp,⟨ok_nil,none,0,0,rfl,rfl,Nat.le_refl _,Rd.nil _ _ _,fun a ha=>by cases ha⟩,own_nil _ _ _ _,fun k hk=>by simp [fe] at hk,fun k hk=>by simp [fp] at hk,fun hk=>by simp [fp] at hk,fun k hk=>by simp [fe] at hk⟩,?_,HB.out.trans ((Below.refl _ _).alloc HB.out.size _)⟩
 ·intro k hk
  simp at hk
  simp [hk]
 ·intro k hk
  simp at hk
  rw [hk];exact HB.out.size
end Go.Proofs.Ytoahkffdoaphlaa.Re
