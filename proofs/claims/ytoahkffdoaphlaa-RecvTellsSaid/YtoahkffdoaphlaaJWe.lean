/- Joined texts. Conditions: as each theorem lists them. -/
import Derived.Test.YtoahkffdoaphlaaJWd
import Derived.Laws.ResultCell
import Derived.Laws.Rows
import Derived.StillTailTactics
set_option linter.unusedSimpArgs false
set_option linter.unusedVariables false
set_option maxRecDepth 100000
set_option maxHeartbeats 80000000
namespace Go.Proofs.Ytoahkffdoaphlaa.Se
open Go Go.RowKit Go.Proofs.Ytoahkffdoaphlaa Go.Proofs.Ytoahkffdoaphlaa.Sp
/-- A result that lies in a variable of one block, and one more in a slot. -/
theorem results_row_tmp {P:Program} {fn:Func} {p u:Tmp} {ty:TypeId} (h:fn.results=#[.cell p ty,.tmp u]) (tmps:Array Value) (w:World) (g:Nat) (t:TypeId) (cs:Array Value) (fr:Nat × Nat) (d:TypeDesc)
  (hp:tmps.getD p undef=.pointer (some ⟨g,0,none⟩)) (hg:w.heap[g]?=some (.cells cs t fr))
  (hu:P.underlying ty=some d) (hd:(match d with | .struct _ | .array _ _=>true | _=>false)=true) (hi:(P.info? ty).map (·.size)=some cs.size) :
  (results fn tmps).run P w=.ok (.tuple #[.agg cs,tmps.getD u undef]) w:=by
 rw [results_cell_tmp h tmps P w,hp]
 simp [asAddr,run_loadVar_row w g t ty cs fr d hg hu hd hi,Result.andThen_ok]
/-- .. and two more. -/
theorem results_row_tmp2 {P:Program} {fn:Func} {p u v:Tmp} {ty:TypeId} (h:fn.results=#[.cell p ty,.tmp u,.tmp v]) (tmps:Array Value) (w:World) (g:Nat) (t:TypeId) (cs:Array Value) (fr:Nat × Nat) (d:TypeDesc)
  (hp:tmps.getD p undef=.pointer (some ⟨g,0,none⟩)) (hg:w.heap[g]?=some (.cells cs t fr))
  (hu:P.underlying ty=some d) (hd:(match d with | .struct _ | .array _ _=>true | _=>false)=true) (hi:(P.info? ty).map (·.size)=some cs.size) :
  (results fn tmps).run P w=.ok (.tuple #[.agg cs,tmps.getD u undef,tmps.getD v undef]) w:=by
 have e:(results fn tmps).run P w=((asAddr (tmps.getD p undef)).run P w).andThen fun a w₁=>((loadVar ty a).run P w₁).andThen fun x w₂=>.ok (.tuple #[x,tmps.getD u undef,tmps.getD v undef]) w₂:=by
  simp only [results,h]
  simp [Sem.run_bind,Result.andThen]
 rw [e,hp]
 simp [asAddr,run_loadVar_row w g t ty cs fr d hg hu hd hi,Result.andThen_ok]
theorem still_tail {P:Program} {id:Nat} {Q:Exit→Act→World→Prop} {a:Act} {w:World} {l:List Oper} (n:Nat) (hm:P.follows .mixedOrders=true) (hB:Region.lexTailB .any l.toArray n=true)
  (h:∀ w':World,w'=w.drew→wpStill P l.toArray w' (fun a'=>wpList P l.toArray Q (l.drop n) a' w') (l.take n) a):(Code.region id l.toArray true).wp P Q a w :=
 wp_region_still_tail n hm hB (h _ rfl)
/-- The nine cells of a frame that is none. -/
def zF:Array Value:=#[.int .i64 0,.int .i64 0,.int .i64 0,.int .i64 0,.int .i64 0,.int .i64 0,.bool false,.slice none 0 0,.slice none 0 0]
section
variable {w w':World} {p:Nat} {F:List Nat} {v3 v4 v5:Value} {s:St}
theorem st_new (h:StIn w p F v3 v4 v5 s) (o:Obj):StIn (w.alloc o) p F v3 v4 v5 s∧Kept F w (w.alloc o)∧w.heap.size ∉ F :=
 ⟨h.below ((Below.refl _ _).alloc (Nat.le_refl _) _),Kept.ofBelow F ((Below.refl _ _).alloc (Nat.le_refl _) _),fun hm=>by have:=h.hF _ hm;omega⟩
theorem StIn.far {g:Nat} (h:StIn w p F v3 v4 v5 s) (hg:g ∉ F) (j:Nat) (u:Value):StIn (w.setCell ⟨g,j,none⟩ u) p F v3 v4 v5 s :=
 h.kept (kept_put w (F:=[g]) (by simp) j u) fun k hk e=>hg (by simp at e;exact e ▸ hk)
theorem Kept.far {g:Nat} (h:Kept F w w') (hg:w.heap.size≤g) (j:Nat) (u:Value):Kept F w (w'.setCell ⟨g,j,none⟩ u) :=
 ⟨h.os,h.tape,h.output,by simp [World.setCell];exact h.size,fun k hk hn=>(Below.heap_setCell _ _ _ _ (by show k≠g;omega)).trans (h.block k hk hn)⟩
/-- The stream as the call left it, and a block of the call's own beside it. -/
structure Mid (w W:World) (p g:Nat) (F F':List Nat) (v3 v4 v5:Value) (s:St):Prop where
 st:StIn W p F' v3 v4 v5 s
 kept:Kept F w W
 new:∀ k ∈ F',k ∈ F∨w.heap.size≤k
 far:g ∉ F'
 own:w.heap.size≤g
theorem Mid.set {g:Nat} {F':List Nat} (h:Mid w w' p g F F' v3 v4 v5 s) (j:Nat) (u:Value):Mid w (w'.setCell ⟨g,j,none⟩ u) p g F F' v3 v4 v5 s :=
 ⟨h.st.far h.far j u,h.kept.far h.own j u,h.new,h.far,h.own⟩
theorem Mid.to {g:Nat} {F':List Nat} (h:Mid w w' p g F F' v3 v4 v5 s):StTo w w' p F s:=⟨F',v3,v4,v5,h.st,h.kept,h.new⟩
theorem Mid.drewN {g:Nat} {F':List Nat} (h:Mid w w' p g F F' v3 v4 v5 s) (q:Nat):Mid w (w'.drewN q) p g F F' v3 v4 v5 s:=⟨h.st.drewN q,h.kept.drewN q,h.new,h.far,h.own⟩
/-- A further call of the stream's: its own block stays. -/
theorem Mid.then {g:Nat} {F':List Nat} {W:World} {s2:St} (h:Mid w w' p g F F' v3 v4 v5 s) (hg:g<w'.heap.size) (ht:StTo w' W p F' s2):∃ F2 a b c,Mid w W p g F F2 a b c s2∧W.heap[g]?=w'.heap[g]?:=by
 obtain ⟨F2,a,b,c,h1,h2,h3⟩:=ht
 refine ⟨F2,a,b,c,⟨h1,h.kept.trans h2 h.new,fun k hk=>?_,fun hm=>?_,h.own⟩,h2.block g hg h.far⟩
 ·rcases h3 k hk with hx | hx
  ·exact h.new k hx
  ·exact .inr (Nat.le_trans h.kept.size hx)
 ·rcases h3 g hm with hx | hx
  ·exact h.far hx
  ·omega
theorem mid_new (h:StIn w p F v3 v4 v5 s) (o:Obj):Mid w (w.alloc o) p w.heap.size F F v3 v4 v5 s :=
 ⟨(st_new h o).1,(st_new h o).2.1,fun _ hk=>.inl hk,(st_new h o).2.2,Nat.le_refl _⟩
theorem turn_none_st (h:StIn w p F v3 v4 v5 s) (ht:turnS s=none) :
  Calls Try.prog 18 #[.pointer (some ⟨p,0,none⟩)] w fun e w'=>e=.returned (.tuple #[.agg #[.int .i64 0,.int .i64 0,.int .i64 0,.int .i64 0,.int .i64 0,.int .i64 0,.bool false,.slice none 0 0,.slice none 0 0],.bool false])∧StTo w w' p F s:=by
 obtain ⟨g,hg⟩:∃ g,w.heap.size=g:=⟨_,rfl⟩
 obtain ⟨w1,hw1⟩:∃ x,w.alloc (.cells #[.int .i64 0,.int .i64 0,.int .i64 0,.int .i64 0,.int .i64 0,.int .i64 0,.bool false,.slice none 0 0,.slice none 0 0] 54)=x:=⟨_,rfl⟩
 have hM:Mid w w1 p g F F v3 v4 v5 s:=by rw [← hg,← hw1];exact mid_new h _
 have hg1:w1.heap[g]?=some (.cells #[.int .i64 0,.int .i64 0,.int .i64 0,.int .i64 0,.int .i64 0,.int .i64 0,.bool false,.slice none 0 0,.slice none 0 0] 54 (0,0)):=by rw [← hg,← hw1];exact heap_alloc_new w _
 obtain ⟨_,hc1,_,_,_,_,hc8,_,hc10,hc11⟩:=hM.st.cells
 have HDU:Hid (∀ n,Calls Try.prog 53 #[.pointer (some ⟨p,11,none⟩)] (w1.drewN n) fun e w'=>e=.returned (.bool (dueN s.br))∧w'=w1.drewN n):=fun n=>due_news p 11 s.br _ ((hM.st.drewN n).cells.2.2.2.2.2.2.2.2.2)
 have HM:=Lib.hid hM
 have HG:=Lib.hid hg1
 have HW:=Lib.hid hw1
 have HGG:=Lib.hid hg
 have hcase:s.rs=false∨s.rs=true∧s.u<s.sure∨s.rs=true∧¬ s.u<s.sure∧dueN s.br=false:=by
  unfold turnS at ht
  split at ht
  ·rename_i hx
   cases hr:s.rs
   ·exact .inl rfl
   ·by_cases hu:s.u<s.sure
    ·exact .inr (.inl ⟨rfl,hu⟩)
    ·exact .inr (.inr ⟨rfl,hu,by rw [hr] at hx;rcases hx with hx | hx | hx;cases hx;exact absurd hx hu;exact hx⟩)
  ·cases ht
 clear h hM ht hw1 hg1 hg
 rcases hcase with hr | ⟨hr,hu⟩ | ⟨hr,hu,hd⟩
 all_goals
  rw [hr] at hc8
  go_enter Try.func18,Try.ntmps18
  go_wp2_with fail
  rw [HW.out,HGG.out]
  go_quiet ((go_at_call 53;exact Calls.quiet_of_same (HDU.out _)))
  have HMQ:=Lib.hid (HM.out.drewN nq)
  have HGQ:Hid ((w1.drewN nq).heap[g]?=_):=HG.out
  have y0:=cell_slot (o:=0) HG.out rfl
  have f0:=free_slot (o:=0) HG.out
  have y1:=cell_slot (o:=1) HG.out rfl
  have f1:=free_slot (o:=1) HG.out
  have y2:=cell_slot (o:=2) HG.out rfl
  have f2:=free_slot (o:=2) HG.out
  have y3:=cell_slot (o:=3) HG.out rfl
  have f3:=free_slot (o:=3) HG.out
  have y4:=cell_slot (o:=4) HG.out rfl
  have f4:=free_slot (o:=4) HG.out
  have y5:=cell_slot (o:=5) HG.out rfl
  have f5:=free_slot (o:=5) HG.out
  have y6:=cell_slot (o:=6) HG.out rfl
  have f6:=free_slot (o:=6) HG.out
  have y7:=cell_slot (o:=7) HG.out rfl
  have f7:=free_slot (o:=7) HG.out
  have y8:=cell_slot (o:=8) HG.out rfl
  have f8:=free_slot (o:=8) HG.out
  go_wp2_with fail
  refine bodyPost_ret (results_row_tmp rfl _ _ g 54 _ (0,0) _ rfl (set_slot (set_slot (set_slot (set_slot (set_slot (set_slot (set_slot (set_slot (set_slot (HGQ.out) 0 _) 1 _) 2 _) 3 _) 4 _) 5 _) 6 _) 7 _) 8 _) Try.underlying54 rfl (by kernel_rfl)) rfl ?_
  exact ⟨rfl,(((((((((HMQ.out.set _ _).set _ _).set _ _).set _ _).set _ _).set _ _).set _ _).set _ _).set _ _).to⟩
theorem turn_some_st (h:StIn w p F v3 v4 v5 s) (s':St) (ht:turnS s=some s') :
  Calls Try.prog 18 #[.pointer (some ⟨p,0,none⟩)] w fun e w'=>e=.returned (.tuple #[.agg #[.int .i64 4,.int .i64 s.id,.int .i64 s.u,.int .i64 s.code,.int .i64 s.sure,.int .i64 0,.bool false,.slice none 0 0,.slice none 0 0],.bool true])∧StTo w w' p F s':=by
 have hcase:(s.rs=true∧¬ s.u<s.sure∧dueN s.br=true)∧s'=⟨s.l,s.u,s.id,s.bs,s.lost,s.came,s.fd,s.fin,s.rs,s.code,s.sure,tellN s.br⟩:=by
  unfold turnS at ht
  split at ht
  ·cases ht
  ·rename_i hx
   cases ht
   refine ⟨⟨?_,fun hu=>hx (.inr (.inl hu)),?_⟩,rfl⟩
   ·cases hr:s.rs
    ·exact absurd (.inl hr) hx
    ·rfl
   ·cases hr:dueN s.br
    ·exact absurd (.inr (.inr hr)) hx
    ·rfl
 obtain ⟨⟨hr,hu,hd⟩,rfl⟩:=hcase
 clear ht
 obtain ⟨g,hg⟩:∃ g,w.heap.size=g:=⟨_,rfl⟩
 obtain ⟨w1,hw1⟩:∃ x,w.alloc (.cells #[.int .i64 0,.int .i64 0,.int .i64 0,.int .i64 0,.int .i64 0,.int .i64 0,.bool false,.slice none 0 0,.slice none 0 0] 54)=x:=⟨_,rfl⟩
 have hM:Mid w w1 p g F F v3 v4 v5 s:=by rw [← hg,← hw1];exact mid_new h _
 have hg1:w1.heap[g]?=some (.cells #[.int .i64 0,.int .i64 0,.int .i64 0,.int .i64 0,.int .i64 0,.int .i64 0,.bool false,.slice none 0 0,.slice none 0 0] 54 (0,0)):=by rw [← hg,← hw1];exact heap_alloc_new w _
 obtain ⟨_,hc1,_,_,_,_,hc8,_,hc10,hc11⟩:=hM.st.cells
 have HDU:Hid (∀ n,Calls Try.prog 53 #[.pointer (some ⟨p,11,none⟩)] (w1.drewN n) fun e w'=>e=.returned (.bool true)∧w'=w1.drewN n):=fun n=>by
  have:=due_news p 11 s.br _ ((hM.st.drewN n).cells.2.2.2.2.2.2.2.2.2)
  rwa [hd] at this
 have HTE:=Lib.hid (fun n=>tell_br (hM.st.drewN n))
 have HM:=Lib.hid hM
 have HG:=Lib.hid hg1
 have HW:=Lib.hid hw1
 have HGG:=Lib.hid hg
 rw [hr] at hc8
 have HR:=Lib.hid hr
 clear h hM hw1 hg1 hg hd hr
 go_enter Try.func18,Try.ntmps18
 go_wp2_with fail
 rw [HW.out,HGG.out]
 go_quiet ((go_at_call 53;exact Calls.quiet_of_same (HDU.out _)))
 go_wp2_with fail
 refine (HTE.out nq).mono ?_
 rintro e w2 ⟨rfl,hst,hk⟩
 have HM2:Hid (Mid w w2 p g F F v3 v4 v5 ⟨s.l,s.u,s.id,s.bs,s.lost,s.came,s.fd,s.fin,s.rs,s.code,s.sure,tellN s.br⟩):=⟨hst,(HM.out.kept.drewN nq).then hk,HM.out.new,HM.out.far,HM.out.own⟩
 have hg2:w2.heap[g]?=_:=(hk.block g (lt_of_block HG.out) HM.out.far).trans HG.out
 clear hst hk hc1 hc8 hc10 hc11
 go_wp2_with fail
 refine still_tail 17 (by kernel_rfl) (by kernel_rfl) ?_
 intro wz hwz
 have HMZ:Hid (Mid w wz p g F F v3 v4 v5 ⟨s.l,s.u,s.id,s.bs,s.lost,s.came,s.fd,s.fin,s.rs,s.code,s.sure,tellN s.br⟩):=by rw [hwz];exact HM2.out.drewN 1
 have HGZ:Hid (wz.heap[g]?=some (.cells #[.int .i64 0,.int .i64 0,.int .i64 0,.int .i64 0,.int .i64 0,.int .i64 0,.bool false,.slice none 0 0,.slice none 0 0] 54 (0,0))):=by rw [hwz];exact hg2
 clear hwz hg2
 obtain ⟨_,hc1,hc2,_,_,_,_,hc9,hc10,_⟩:=HMZ.out.st.cells
 have y0:=cell_slot (o:=0) HGZ.out rfl
 have f0:=free_slot (o:=0) HGZ.out
 have y1:=cell_slot (o:=1) HGZ.out rfl
 have f1:=free_slot (o:=1) HGZ.out
 have y2:=cell_slot (o:=2) HGZ.out rfl
 have f2:=free_slot (o:=2) HGZ.out
 have y3:=cell_slot (o:=3) HGZ.out rfl
 have f3:=free_slot (o:=3) HGZ.out
 have y4:=cell_slot (o:=4) HGZ.out rfl
 have f4:=free_slot (o:=4) HGZ.out
 have y5:=cell_slot (o:=5) HGZ.out rfl
 have f5:=free_slot (o:=5) HGZ.out
 have y6:=cell_slot (o:=6) HGZ.out rfl
 have f6:=free_slot (o:=6) HGZ.out
 have y7:=cell_slot (o:=7) HGZ.out rfl
 have f7:=free_slot (o:=7) HGZ.out
 have y8:=cell_slot (o:=8) HGZ.out rfl
 have f8:=free_slot (o:=8) HGZ.out
 simp only [List.take_succ_cons,List.take_zero,List.drop_succ_cons,List.drop_zero]
 iterate 17 still_step
 refine wpStill_nil ?_
 go_wp2_with fail
 refine bodyPost_ret (results_row_tmp rfl _ _ g 54 _ (0,0) _ rfl (set_slot (set_slot (set_slot (set_slot (set_slot (set_slot (set_slot (set_slot (set_slot (HGZ.out) 0 _) 1 _) 2 _) 3 _) 4 _) 5 _) 6 _) 7 _) 8 _) Try.underlying54 rfl (by kernel_rfl)) rfl ?_
 exact ⟨rfl,(((((((((HMZ.out.set _ _).set _ _).set _ _).set _ _).set _ _).set _ _).set _ _).set _ _).set _ _).to⟩
theorem bytes_st (h:StIn w p F v3 v4 v5 s) (hu:0≤s.u∧s.u≤(s.bs.length:Int)) (hn:s.bs.length≤4000) (k id off a b note:Int) (fin:Bool) (A:Option Addr) (n c:Nat) (A2:Option Addr) (n2 c2:Nat) (ho:0≤off∧off≤4611686018427387903) (hnn:n≤1099511627776) :
  Calls Try.prog 55 #[.pointer (some ⟨p,0,none⟩),.agg #[.int .i64 k,.int .i64 id,.int .i64 off,.int .i64 a,.int .i64 b,.int .i64 note,.bool fin,.slice A n c,.slice A2 n2 c2]] w fun e w'=>e=.returned (.tuple #[.int .i64 (bytesS s ⟨k,id,off,b,fin,n⟩).1,.int .i64 (bytesS s ⟨k,id,off,b,fin,n⟩).2])∧Below w.heap.size w w':=by
 obtain ⟨g,hg⟩:∃ g,w.heap.size=g:=⟨_,rfl⟩
 obtain ⟨w1,hw1⟩:∃ x,w.alloc (.cells #[.int .i64 k,.int .i64 id,.int .i64 off,.int .i64 a,.int .i64 b,.int .i64 note,.bool fin,.slice A n c,.slice A2 n2 c2] 54)=x:=⟨_,rfl⟩
 have hM:Mid w w1 p g F F v3 v4 v5 s:=by rw [← hg,← hw1];exact mid_new h _
 have hg1:w1.heap[g]?=some (.cells #[.int .i64 k,.int .i64 id,.int .i64 off,.int .i64 a,.int .i64 b,.int .i64 note,.bool fin,.slice A n c,.slice A2 n2 c2] 54 (0,0)):=by rw [← hg,← hw1];exact heap_alloc_new w _
 have HB:Hid (∀ n,Below w.heap.size w (w1.drewN n)):=fun n=>by rw [← hw1];exact ((Below.refl _ _).alloc (Nat.le_refl _) _).trans ⟨rfl,rfl,rfl,Nat.le_refl _,fun _ _=>rfl⟩
 obtain ⟨_,_,hc2,_⟩:=hM.st.cells
 have HSE:=Lib.hid (fun n=>sent_st (hM.st.drewN n) hu.2)
 have y0:=cell_slot (o:=0) hg1 rfl
 have y1:=cell_slot (o:=1) hg1 rfl
 have y2:=cell_slot (o:=2) hg1 rfl
 have y7:=cell_slot (o:=7) hg1 rfl
 have HV:Hid (bytesS s ⟨k,id,off,b,fin,n⟩=if k≠3∨id≠s.id then (0,0) else (off,min (off+n) s.u)):=rfl
 obtain ⟨u,hus⟩:∃ u,s.u=u:=⟨_,rfl⟩
 obtain ⟨sid,hid⟩:∃ u,s.id=u:=⟨_,rfl⟩
 rw [hus] at HSE HV hu
 rw [hid] at hc2 HV
 have HW:=Lib.hid hw1
 have HGG:=Lib.hid hg
 obtain ⟨hu0,hu1⟩:=hu
 obtain ⟨ho0,ho1⟩:=ho
 have hnI:(n:Int)≤1099511627776:=by omega
 have hu2:u≤4000:=by omega
 clear h hM hw1 hg1 hg hus hid hn hnn hu1
 by_cases hk3:k=3
 ·subst hk3
  by_cases hi:id=sid
  ·subst hi
   have e:bytesS s ⟨3,id,off,b,fin,n⟩=(off,min (off+n) u):=by rw [HV.out,if_neg (by simp)]
   rw [e]
   clear e HV
   have hmin:min (off+(n:Int)) u=off+n∧off+(n:Int)≤u∨min (off+(n:Int)) u=u∧u<off+(n:Int):=by omega
   rcases hmin with ⟨hm,hle⟩ | ⟨hm,hle⟩
   all_goals
    rw [hm]
    have HMI:=Lib.hid hm
    clear hm
    go_enter Try.func55,Try.ntmps55
    go_wp2_with fail
    rw [HW.out,HGG.out]
    go_quiet (fail)
    obtain ⟨w2,hw2⟩:∃ x,w1.drewN nq=x:=⟨_,rfl⟩
    rw [hw2]
    replace y2:w2.cell? ⟨g,2,none⟩=some (.int .i64 off):=by rw [← hw2];exact y2
    replace y7:w2.cell? ⟨g,7,none⟩=some (.slice A n c):=by rw [← hw2];exact y7
    have HS2:Hid (∀ m,Calls Try.prog 68 #[.pointer (some ⟨p,0,none⟩)] (w2.drewN m) fun e w'=>e=.returned (.int .i64 u)∧∃ q,w'=(w2.drewN m).drewN q):=fun m=>by rw [← hw2,World.drewN_drewN];exact HSE.out _
    have HB2:Hid (∀ m,Below w.heap.size w (w2.drewN m)):=fun m=>by rw [← hw2,World.drewN_drewN];exact HB.out _
    clear hw2 HSE HB
    go_wp2_with fail
    go_quiet ((go_at_call 68;exact Calls.quiet_of (HS2.out _)))
    go_wp2_with fail
    go_ret2
    exact ⟨by simp;exact HMI.out,HB2.out _⟩
  ·have e:bytesS s ⟨3,id,off,b,fin,n⟩=(0,0):=by rw [HV.out,if_pos (.inr hi)]
   rw [e]
   clear e HV
   have hi2:(id != sid)=true:=by simpa using hi
   clear hi
   go_enter Try.func55,Try.ntmps55
   go_wp2_with fail
   rw [HW.out,HGG.out]
   go_quiet (fail)
   go_wp2_with fail
   go_ret2
   exact ⟨rfl,HB.out _⟩
 ·have e:bytesS s ⟨k,id,off,b,fin,n⟩=(0,0):=by rw [HV.out,if_pos (.inl hk3)]
  rw [e]
  clear e HV
  have hk2:(k != 3)=true:=by simpa using hk3
  clear hk3
  go_enter Try.func55,Try.ntmps55
  go_wp2_with fail
  rw [HW.out,HGG.out]
  go_quiet (fail)
  go_wp2_with fail
  go_ret2
  exact ⟨rfl,HB.out _⟩
/-- Where a frame tells news. -/
def newsV (p:Nat) (k:Nat):Value:=if k=1 then .pointer (some ⟨p,7,none⟩) else if k=2 then .pointer (some ⟨p,11,none⟩) else .pointer none
theorem news_st (h:StIn w p F v3 v4 v5 s) (hn:s.bs.length≤4000) (k id off a b note:Int) (fin:Bool) (A:Option Addr) (n c:Nat) (A2:Option Addr) (n2 c2:Nat) (ho:0≤off∧off≤4611686018427387903) (hnn:n≤1099511627776) :
  Calls Try.prog 58 #[.pointer (some ⟨p,0,none⟩),.agg #[.int .i64 k,.int .i64 id,.int .i64 off,.int .i64 a,.int .i64 b,.int .i64 note,.bool fin,.slice A n c,.slice A2 n2 c2]] w fun e w'=>e=.returned (newsV p (newsS s ⟨k,id,off,b,fin,n⟩))∧Below w.heap.size w w':=by
 obtain ⟨g,hg⟩:∃ g,w.heap.size=g:=⟨_,rfl⟩
 obtain ⟨w1,hw1⟩:∃ x,w.alloc (.cells #[.int .i64 k,.int .i64 id,.int .i64 off,.int .i64 a,.int .i64 b,.int .i64 note,.bool fin,.slice A n c,.slice A2 n2 c2] 54)=x:=⟨_,rfl⟩
 have hM:Mid w w1 p g F F v3 v4 v5 s:=by rw [← hg,← hw1];exact mid_new h _
 have hg1:w1.heap[g]?=some (.cells #[.int .i64 k,.int .i64 id,.int .i64 off,.int .i64 a,.int .i64 b,.int .i64 note,.bool fin,.slice A n c,.slice A2 n2 c2] 54 (0,0)):=by rw [← hg,← hw1];exact heap_alloc_new w _
 have HB:Hid (∀ n,Below w.heap.size w (w1.drewN n)):=fun n=>by rw [← hw1];exact ((Below.refl _ _).alloc (Nat.le_refl _) _).trans ⟨rfl,rfl,rfl,Nat.le_refl _,fun _ _=>rfl⟩
 obtain ⟨_,_,hc2,_,_,_,_,_,hc10,_⟩:=hM.st.cells
 have HSE:=Lib.hid (fun n=>size_st (hM.st.drewN n))
 have y0:=cell_slot (o:=0) hg1 rfl
 have y1:=cell_slot (o:=1) hg1 rfl
 have y2:=cell_slot (o:=2) hg1 rfl
 have y4:=cell_slot (o:=4) hg1 rfl
 have y6:=cell_slot (o:=6) hg1 rfl
 have y7:=cell_slot (o:=7) hg1 rfl
 have HV:Hid (newsS s ⟨k,id,off,b,fin,n⟩=if id≠s.id then 0 else if k=3∧fin=true∧off+n=(s.bs.length:Int) then 1 else if k=4∧b=s.sure then 2 else 0):=rfl
 obtain ⟨sz,hsz⟩:∃ u:Int,(s.bs.length:Int)=u:=⟨_,rfl⟩
 obtain ⟨sid,hid⟩:∃ u,s.id=u:=⟨_,rfl⟩
 obtain ⟨su,hsu⟩:∃ u,s.sure=u:=⟨_,rfl⟩
 rw [hsz] at HSE HV
 rw [hid] at hc2 HV
 rw [hsu] at hc10 HV
 have HW:=Lib.hid hw1
 have HGG:=Lib.hid hg
 obtain ⟨ho0,ho1⟩:=ho
 have hnI:(n:Int)≤1099511627776:=by omega
 clear h hM hw1 hg1 hg hsz hid hn hnn hsu
 by_cases hi:id=sid
 case neg =>
  have hi2:(id != sid)=true:=by simpa using hi
  have e:newsV p (newsS s ⟨k,id,off,b,fin,n⟩)=.pointer none:=by rw [HV.out,if_pos hi];rfl
  rw [e]
  clear e HV hi
  go_enter Try.func58,Try.ntmps58
  go_wp2_with fail
  rw [HW.out,HGG.out]
  go_quiet (fail)
  go_wp2_with fail
  go_ret
  exact ⟨rfl,HB.out _⟩
 subst hi
 rw [if_neg (by simp)] at HV
 by_cases hk3:k=3
 ·subst hk3
  cases fin
  ·have e:newsV p (newsS s ⟨3,id,off,b,false,n⟩)=.pointer none:=by rw [HV.out,if_neg (by simp),if_neg (by simp)];rfl
   rw [e]
   clear e HV
   go_enter Try.func58,Try.ntmps58
   go_wp2_with fail
   rw [HW.out,HGG.out]
   go_quiet (fail)
   obtain ⟨w2,hw2⟩:∃ x,w1.drewN nq=x:=⟨_,rfl⟩
   rw [hw2]
   have HS2:Hid (∀ m,Calls Try.prog 29 #[.pointer (some ⟨p,0,none⟩)] (w2.drewN m) fun e w'=>e=.returned (.int .i64 sz)∧w'=w2.drewN m):=fun m=>by rw [← hw2,World.drewN_drewN];exact HSE.out _
   have HB2:Hid (∀ m,Below w.heap.size w (w2.drewN m)):=fun m=>by rw [← hw2,World.drewN_drewN];exact HB.out _
   replace hc10:w2.cell? ⟨p,10,none⟩=some (.int .i64 su):=by rw [← hw2];exact hc10
   replace y0:w2.cell? ⟨g,0,none⟩=some (.int .i64 3):=by rw [← hw2];exact y0
   replace y2:w2.cell? ⟨g,2,none⟩=some (.int .i64 off):=by rw [← hw2];exact y2
   replace y4:w2.cell? ⟨g,4,none⟩=some (.int .i64 b):=by rw [← hw2];exact y4
   replace y6:w2.cell? ⟨g,6,none⟩=some (.bool false):=by rw [← hw2];exact y6
   replace y7:w2.cell? ⟨g,7,none⟩=some (.slice A n c):=by rw [← hw2];exact y7
   clear hw2 HSE HB
   go_wp2_with fail
   go_quiet ((go_at_call 29;exact Calls.quiet_of_same (HS2.out _)))
   obtain ⟨w3,hw3⟩:∃ x,w2.drewN nq=x:=⟨_,rfl⟩
   rw [hw3]
   have HB3:Hid (∀ m,Below w.heap.size w (w3.drewN m)):=fun m=>by rw [← hw3,World.drewN_drewN];exact HB2.out _
   replace hc10:w3.cell? ⟨p,10,none⟩=some (.int .i64 su):=by rw [← hw3];exact hc10
   replace y0:w3.cell? ⟨g,0,none⟩=some (.int .i64 3):=by rw [← hw3];exact y0
   replace y4:w3.cell? ⟨g,4,none⟩=some (.int .i64 b):=by rw [← hw3];exact y4
   clear hw3
   go_wp2_with fail
   go_quiet (fail)
   go_wp2_with fail
   go_ret
   exact ⟨rfl,HB3.out _⟩
  ·by_cases he:off+(n:Int)=sz
   ·have he2:(off+(n:Int) == sz)=true:=by simpa using he
    have e:newsV p (newsS s ⟨3,id,off,b,true,n⟩)=.pointer (some ⟨p,7,none⟩):=by rw [HV.out,if_pos ⟨rfl,rfl,he⟩];rfl
    rw [e]
    clear e HV he
    go_enter Try.func58,Try.ntmps58
    go_wp2_with fail
    rw [HW.out,HGG.out]
    go_quiet (fail)
    obtain ⟨w2,hw2⟩:∃ x,w1.drewN nq=x:=⟨_,rfl⟩
    rw [hw2]
    have HS2:Hid (∀ m,Calls Try.prog 29 #[.pointer (some ⟨p,0,none⟩)] (w2.drewN m) fun e w'=>e=.returned (.int .i64 sz)∧w'=w2.drewN m):=fun m=>by rw [← hw2,World.drewN_drewN];exact HSE.out _
    have HB2:Hid (∀ m,Below w.heap.size w (w2.drewN m)):=fun m=>by rw [← hw2,World.drewN_drewN];exact HB.out _
    replace hc10:w2.cell? ⟨p,10,none⟩=some (.int .i64 su):=by rw [← hw2];exact hc10
    replace y0:w2.cell? ⟨g,0,none⟩=some (.int .i64 3):=by rw [← hw2];exact y0
    replace y2:w2.cell? ⟨g,2,none⟩=some (.int .i64 off):=by rw [← hw2];exact y2
    replace y4:w2.cell? ⟨g,4,none⟩=some (.int .i64 b):=by rw [← hw2];exact y4
    replace y6:w2.cell? ⟨g,6,none⟩=some (.bool true):=by rw [← hw2];exact y6
    replace y7:w2.cell? ⟨g,7,none⟩=some (.slice A n c):=by rw [← hw2];exact y7
    clear hw2 HSE HB
    go_wp2_with fail
    go_quiet ((go_at_call 29;exact Calls.quiet_of_same (HS2.out _)))
    go_wp2_with fail
    go_ret
    exact ⟨rfl,HB2.out _⟩
   ·have he2:(off+(n:Int) == sz)=false:=by simpa using he
    have e:newsV p (newsS s ⟨3,id,off,b,true,n⟩)=.pointer none:=by rw [HV.out,if_neg (by simp [he]),if_neg (by simp)];rfl
    rw [e]
    clear e HV he
    go_enter Try.func58,Try.ntmps58
    go_wp2_with fail
    rw [HW.out,HGG.out]
    go_quiet (fail)
    obtain ⟨w2,hw2⟩:∃ x,w1.drewN nq=x:=⟨_,rfl⟩
    rw [hw2]
    have HS2:Hid (∀ m,Calls Try.prog 29 #[.pointer (some ⟨p,0,none⟩)] (w2.drewN m) fun e w'=>e=.returned (.int .i64 sz)∧w'=w2.drewN m):=fun m=>by rw [← hw2,World.drewN_drewN];exact HSE.out _
    have HB2:Hid (∀ m,Below w.heap.size w (w2.drewN m)):=fun m=>by rw [← hw2,World.drewN_drewN];exact HB.out _
    replace hc10:w2.cell? ⟨p,10,none⟩=some (.int .i64 su):=by rw [← hw2];exact hc10
    replace y0:w2.cell? ⟨g,0,none⟩=some (.int .i64 3):=by rw [← hw2];exact y0
    replace y2:w2.cell? ⟨g,2,none⟩=some (.int .i64 off):=by rw [← hw2];exact y2
    replace y4:w2.cell? ⟨g,4,none⟩=some (.int .i64 b):=by rw [← hw2];exact y4
    replace y6:w2.cell? ⟨g,6,none⟩=some (.bool true):=by rw [← hw2];exact y6
    replace y7:w2.cell? ⟨g,7,none⟩=some (.slice A n c):=by rw [← hw2];exact y7
    clear hw2 HSE HB
    go_wp2_with fail
    go_quiet ((go_at_call 29;exact Calls.quiet_of_same (HS2.out _)))
    obtain ⟨w3,hw3⟩:∃ x,w2.drewN nq=x:=⟨_,rfl⟩
    rw [hw3]
    have HB3:Hid (∀ m,Below w.heap.size w (w3.drewN m)):=fun m=>by rw [← hw3,World.drewN_drewN];exact HB2.out _
    replace hc10:w3.cell? ⟨p,10,none⟩=some (.int .i64 su):=by rw [← hw3];exact hc10
    replace y0:w3.cell? ⟨g,0,none⟩=some (.int .i64 3):=by rw [← hw3];exact y0
    replace y4:w3.cell? ⟨g,4,none⟩=some (.int .i64 b):=by rw [← hw3];exact y4
    clear hw3
    go_wp2_with fail
    go_quiet (fail)
    go_wp2_with fail
    go_ret
    exact ⟨rfl,HB3.out _⟩
 ·have hk32:(k == 3)=false:=by simpa using hk3
  rw [if_neg (by simp [hk3])] at HV
  by_cases hk4:k=4
  ·subst hk4
   clear hk3 hk32
   by_cases hb:b=su
   ·subst hb
    have e:newsV p (newsS s ⟨4,id,off,b,fin,n⟩)=.pointer (some ⟨p,11,none⟩):=by rw [HV.out,if_pos ⟨rfl,rfl⟩];rfl
    rw [e]
    clear e HV
    go_enter Try.func58,Try.ntmps58
    go_wp2_with fail
    rw [HW.out,HGG.out]
    go_quiet (fail)
    obtain ⟨w2,hw2⟩:∃ x,w1.drewN nq=x:=⟨_,rfl⟩
    rw [hw2]
    have HS2:Hid (∀ m,Calls Try.prog 29 #[.pointer (some ⟨p,0,none⟩)] (w2.drewN m) fun e w'=>e=.returned (.int .i64 sz)∧w'=w2.drewN m):=fun m=>by rw [← hw2,World.drewN_drewN];exact HSE.out _
    have HB2:Hid (∀ m,Below w.heap.size w (w2.drewN m)):=fun m=>by rw [← hw2,World.drewN_drewN];exact HB.out _
    replace hc10:w2.cell? ⟨p,10,none⟩=some (.int .i64 b):=by rw [← hw2];exact hc10
    replace y0:w2.cell? ⟨g,0,none⟩=some (.int .i64 4):=by rw [← hw2];exact y0
    replace y2:w2.cell? ⟨g,2,none⟩=some (.int .i64 off):=by rw [← hw2];exact y2
    replace y4:w2.cell? ⟨g,4,none⟩=some (.int .i64 b):=by rw [← hw2];exact y4
    replace y6:w2.cell? ⟨g,6,none⟩=some (.bool fin):=by rw [← hw2];exact y6
    replace y7:w2.cell? ⟨g,7,none⟩=some (.slice A n c):=by rw [← hw2];exact y7
    clear hw2 HSE HB
    go_wp2_with fail
    go_quiet ((go_at_call 29;exact Calls.quiet_of_same (HS2.out _)))
    obtain ⟨w3,hw3⟩:∃ x,w2.drewN nq=x:=⟨_,rfl⟩
    rw [hw3]
    have HB3:Hid (∀ m,Below w.heap.size w (w3.drewN m)):=fun m=>by rw [← hw3,World.drewN_drewN];exact HB2.out _
    replace hc10:w3.cell? ⟨p,10,none⟩=some (.int .i64 b):=by rw [← hw3];exact hc10
    replace y0:w3.cell? ⟨g,0,none⟩=some (.int .i64 4):=by rw [← hw3];exact y0
    replace y4:w3.cell? ⟨g,4,none⟩=some (.int .i64 b):=by rw [← hw3];exact y4
    clear hw3
    go_wp2_with fail
    go_quiet (fail)
    go_wp2_with fail
    go_ret
    exact ⟨rfl,HB3.out _⟩
   ·have hb2:(b == su)=false:=by simpa using hb
    have e:newsV p (newsS s ⟨4,id,off,b,fin,n⟩)=.pointer none:=by rw [HV.out,if_neg (by simp [hb])];rfl
    rw [e]
    clear e HV hb
    go_enter Try.func58,Try.ntmps58
    go_wp2_with fail
    rw [HW.out,HGG.out]
    go_quiet (fail)
    obtain ⟨w2,hw2⟩:∃ x,w1.drewN nq=x:=⟨_,rfl⟩
    rw [hw2]
    have HS2:Hid (∀ m,Calls Try.prog 29 #[.pointer (some ⟨p,0,none⟩)] (w2.drewN m) fun e w'=>e=.returned (.int .i64 sz)∧w'=w2.drewN m):=fun m=>by rw [← hw2,World.drewN_drewN];exact HSE.out _
    have HB2:Hid (∀ m,Below w.heap.size w (w2.drewN m)):=fun m=>by rw [← hw2,World.drewN_drewN];exact HB.out _
    replace hc10:w2.cell? ⟨p,10,none⟩=some (.int .i64 su):=by rw [← hw2];exact hc10
    replace y0:w2.cell? ⟨g,0,none⟩=some (.int .i64 4):=by rw [← hw2];exact y0
    replace y2:w2.cell? ⟨g,2,none⟩=some (.int .i64 off):=by rw [← hw2];exact y2
    replace y4:w2.cell? ⟨g,4,none⟩=some (.int .i64 b):=by rw [← hw2];exact y4
    replace y6:w2.cell? ⟨g,6,none⟩=some (.bool fin):=by rw [← hw2];exact y6
    replace y7:w2.cell? ⟨g,7,none⟩=some (.slice A n c):=by rw [← hw2];exact y7
    clear hw2 HSE HB
    go_wp2_with fail
    go_quiet ((go_at_call 29;exact Calls.quiet_of_same (HS2.out _)))
    obtain ⟨w3,hw3⟩:∃ x,w2.drewN nq=x:=⟨_,rfl⟩
    rw [hw3]
    have HB3:Hid (∀ m,Below w.heap.size w (w3.drewN m)):=fun m=>by rw [← hw3,World.drewN_drewN];exact HB2.out _
    replace hc10:w3.cell? ⟨p,10,none⟩=some (.int .i64 su):=by rw [← hw3];exact hc10
    replace y0:w3.cell? ⟨g,0,none⟩=some (.int .i64 4):=by rw [← hw3];exact y0
    replace y4:w3.cell? ⟨g,4,none⟩=some (.int .i64 b):=by rw [← hw3];exact y4
    clear hw3
    go_wp2_with fail
    go_quiet (fail)
    go_wp2_with fail
    go_ret
    exact ⟨rfl,HB3.out _⟩
  ·have hk42:(k == 4)=false:=by simpa using hk4
   have e:newsV p (newsS s ⟨k,id,off,b,fin,n⟩)=.pointer none:=by rw [HV.out,if_neg (by simp [hk4])];rfl
   rw [e]
   clear e HV hk4 hk3
   go_enter Try.func58,Try.ntmps58
   go_wp2_with fail
   rw [HW.out,HGG.out]
   go_quiet (fail)
   obtain ⟨w2,hw2⟩:∃ x,w1.drewN nq=x:=⟨_,rfl⟩
   rw [hw2]
   have HS2:Hid (∀ m,Calls Try.prog 29 #[.pointer (some ⟨p,0,none⟩)] (w2.drewN m) fun e w'=>e=.returned (.int .i64 sz)∧w'=w2.drewN m):=fun m=>by rw [← hw2,World.drewN_drewN];exact HSE.out _
   have HB2:Hid (∀ m,Below w.heap.size w (w2.drewN m)):=fun m=>by rw [← hw2,World.drewN_drewN];exact HB.out _
   replace hc10:w2.cell? ⟨p,10,none⟩=some (.int .i64 su):=by rw [← hw2];exact hc10
   replace y0:w2.cell? ⟨g,0,none⟩=some (.int .i64 k):=by rw [← hw2];exact y0
   replace y2:w2.cell? ⟨g,2,none⟩=some (.int .i64 off):=by rw [← hw2];exact y2
   replace y4:w2.cell? ⟨g,4,none⟩=some (.int .i64 b):=by rw [← hw2];exact y4
   replace y6:w2.cell? ⟨g,6,none⟩=some (.bool fin):=by rw [← hw2];exact y6
   replace y7:w2.cell? ⟨g,7,none⟩=some (.slice A n c):=by rw [← hw2];exact y7
   clear hw2 HSE HB
   go_wp2_with fail
   go_quiet ((go_at_call 29;exact Calls.quiet_of_same (HS2.out _)))
   obtain ⟨w3,hw3⟩:∃ x,w2.drewN nq=x:=⟨_,rfl⟩
   rw [hw3]
   have HB3:Hid (∀ m,Below w.heap.size w (w3.drewN m)):=fun m=>by rw [← hw3,World.drewN_drewN];exact HB2.out _
   replace hc10:w3.cell? ⟨p,10,none⟩=some (.int .i64 su):=by rw [← hw3];exact hc10
   replace y0:w3.cell? ⟨g,0,none⟩=some (.int .i64 k):=by rw [← hw3];exact y0
   replace y4:w3.cell? ⟨g,4,none⟩=some (.int .i64 b):=by rw [← hw3];exact y4
   clear hw3
   go_wp2_with fail
   go_quiet (fail)
   go_wp2_with fail
   go_ret
   exact ⟨rfl,HB3.out _⟩
end
end Go.Proofs.Ytoahkffdoaphlaa.Se
