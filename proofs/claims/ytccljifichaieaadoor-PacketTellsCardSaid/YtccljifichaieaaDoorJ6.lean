/- Joined texts. Conditions: as each theorem lists them. -/
import Derived.Test.YtccljifichaieaaDoorJ5b
import Derived.Test.YtccljifichaieaaDoorJ5
import Derived.Test.YtccljifichaieaaDoorJ2
import Derived.Deep.RegionHeld3
import Derived.OwnWalk
import Derived.Test.YtccljifichaieaaDoorJ4b
set_option linter.unusedSimpArgs false
set_option linter.unusedVariables false
set_option maxRecDepth 100000
set_option maxHeartbeats 8000000
namespace Go.Proofs.YtccljifichaieaaDoor
open Go Go.RowKit
/-- A reader: the bytes that are left, the first error. -/
structure Rs where
 bs:List Nat
 e:Int
/-- A reader in a variable; its bytes lie ahead of it. -/
def RdrIn (w:World) (p:Nat) (s:Rs):Prop :=
 ∃ A n c,w.heap[p]?=some (.cells #[.slice A n c,.int .i64 s.e] 78 (0,0))∧s.bs.length=n∧n≤c∧Rd w p A n (bv s.bs)∧(∀ x ∈ s.bs,x<256)∧n≤140737488355328
theorem RdrIn.lt {w:World} {p:Nat} {s:Rs} (h:RdrIn w p s):p<w.heap.size:=by
 obtain ⟨A,n,c,h1,_⟩:=h
 exact (Array.getElem?_eq_some_iff.1 h1).1
theorem RdrIn.below {w w':World} {p:Nat} {s:Rs} (h:RdrIn w p s) (hb:Below w.heap.size w w'):RdrIn w' p s:=by
 have hl:=h.lt
 obtain ⟨A,n,c,h1,h2,h3,h4,h5⟩:=h
 exact ⟨A,n,c,(hb.block p hl).trans h1,h2,h3,h4.below hb (Nat.le_of_lt hl),h5⟩
theorem below_grown {w w':World} (hb:Below w.heap.size w w') (p:Nat):w.grownBy w' (some p):=⟨hb.os,hb.tape,hb.output,hb.size,fun k hk _=>hb.block k hk⟩
theorem grown_trans {a b c:World} {p:Nat} (h:a.grownBy b (some p)) (k:b.grownBy c (some p)):a.grownBy c (some p) :=
 ⟨k.os.trans h.os,k.tape.trans h.tape,k.output.trans h.output,Nat.le_trans h.size k.size,fun i hi hne=>(k.block i (Nat.lt_of_lt_of_le hi h.size) hne).trans (h.block i hi hne)⟩
theorem grown_set {w:World} {p o:Nat} (u:Value):w.grownBy (w.setCell ⟨p,o,none⟩ u) (some p) :=
 ⟨rfl,rfl,rfl,by simp [World.setCell],fun k _ hne=>Below.heap_setCell _ _ _ _ (fun e=>hne (by rw [e]))⟩
theorem grown_below {w w':World} {B p:Nat} (hg:w.grownBy w' (some p)) (hB:B≤w.heap.size) (hp:B≤p):Below B w w' :=
 ⟨hg.os,hg.tape,hg.output,hg.size,fun k hk=>hg.block k (by omega) (fun e=>by cases e;omega)⟩
theorem set0 {w:World} {p:Nat} {x y u:Value} {t:TypeId} {fr:Nat × Nat} (h:w.heap[p]?=some (.cells #[x,y] t fr)):(w.setCell ⟨p,0,none⟩ u).heap[p]?=some (.cells #[u,y] t fr):=by
 simp only [World.setCell,Array.getElem?_modify,if_true,h,Option.map_some]
 rfl
theorem set1 {w:World} {p:Nat} {x y u:Value} {t:TypeId} {fr:Nat × Nat} (h:w.heap[p]?=some (.cells #[x,y] t fr)):(w.setCell ⟨p,1,none⟩ u).heap[p]?=some (.cells #[x,u] t fr):=by
 simp only [World.setCell,Array.getElem?_modify,if_true,h,Option.map_some]
 rfl
theorem pair_cells {w:World} {p:Nat} {x y:Value} {t:TypeId} (h:w.heap[p]?=some (.cells #[x,y] t (0,0))):w.cell? ⟨p,0,none⟩=some x∧w.cell? ⟨p,1,none⟩=some y∧(∀ o,w.frozen? ⟨p,o,none⟩=false):=by
 refine ⟨by rw [Am.cell_of w p 0 _ t (0,0) h];rfl,by rw [Am.cell_of w p 1 _ t (0,0) h];rfl,fun o=>?_⟩
 simp [World.frozen?,h]
def needR (s:Rs) (ok:Bool) (e:Int):Rs:=if s.e=0∧ok=false then ⟨s.bs,e⟩ else s
theorem need_any (s:Rs) (p:Nat) (ok:Bool) (er:Int) (w:World) (h:RdrIn w p s) :
  Calls Tryd.prog 78 #[.pointer (some ⟨p,0,none⟩),.bool ok,.int .i64 er] w fun e w'=>e=.returned (.bool ((needR s ok er).e == 0))∧RdrIn w' p (needR s ok er)∧w.grownBy w' (some p):=by
 have HH:=Lib.hid h
 obtain ⟨bs,se⟩:=s
 obtain ⟨A,n,c,h1,h2,h3,h4,h5⟩:=h
 have H1:=Lib.hid h1
 have H4:=Lib.hid h4
 obtain ⟨c0,c1,fz⟩:=pair_cells h1
 have f1:=fz 1
 clear h1 h4 fz
 simp only at c1
 by_cases he:se=0
 ·subst he
  cases ok with
  | true =>
    have e1:needR ⟨bs,0⟩ true er=⟨bs,0⟩:=by unfold needR;rw [if_neg (by simp)]
    rw [e1]
    clear e1
    go_enter Tryd.func78,Tryd.ntmps78
    go_wp2_with fail
    go_ret
    exact ⟨rfl,HH.out,below_grown (Below.refl _ _) p⟩
  | false =>
    have e1:needR ⟨bs,0⟩ false er=⟨bs,er⟩:=by unfold needR;rw [if_pos ⟨rfl,rfl⟩]
    rw [e1]
    clear e1
    have HE:Hid (RdrIn (w.setCell ⟨p,1,none⟩ (.int .i64 er)) p ⟨bs,er⟩):=by
     refine ⟨A,n,c,set1 H1.out,h2,h3,?_,h5⟩
     exact H4.out.below (grown_below (grown_set _) (Nat.le_of_lt HH.out.lt) (Nat.le_refl _)) (Nat.le_refl _)
    go_enter Tryd.func78,Tryd.ntmps78
    go_wp2_with fail
    go_ret
    exact ⟨rfl,HE.out,grown_set _⟩
 ·have e1:needR ⟨bs,se⟩ ok er=⟨bs,se⟩:=by unfold needR;rw [if_neg (fun h=>he h.1)]
  have e2:(se == 0)=false:=by simpa using he
  rw [e1]
  clear e1 he
  cases ok
  all_goals
   go_enter Tryd.func78,Tryd.ntmps78
   go_wp2_with fail
   go_ret
   exact ⟨ret_bool (by simp only [e2]),HH.out,below_grown (Below.refl _ _) p⟩
theorem dec_take8 (bs:List Nat):dec (bs.take 8)=dec bs:=by
 cases bs with
 | nil=>rfl
 | cons b0 r =>
   have h8:1≤lenF b0∧lenF b0≤8:=by unfold lenF;(repeat' split) <;> omega
   show dec (b0 :: r.take 7)=_
   simp only [dec,List.length_cons,List.length_take]
   by_cases h:r.length+1<lenF b0
   ·rw [if_pos h,if_pos (by omega)]
   ·rw [if_neg h,if_neg (by omega),List.take_take,show min (lenF b0 - 1) 7=lenF b0 - 1 by omega]
theorem dec_min (bs:List Nat):dec (bs.take (min bs.length 8))=dec bs:=by
 rw [← dec_take8 bs]
 congr 1
 rcases Nat.le_total bs.length 8 with h | h
 ·rw [Nat.min_eq_left h,List.take_of_length_le h,List.take_of_length_le (Nat.le_refl _)]
 ·rw [Nat.min_eq_right h]
def numR (s:Rs):Int × Rs:=match dec s.bs with
 | none=>(0,needR s false 3)
 | some (v,W)=>if s.e=0 then ((v:Int),⟨s.bs.drop W,0⟩) else (0,s)
end Go.Proofs.YtccljifichaieaaDoor
namespace Go.Proofs.YtccljifichaieaaDoor
open Go Go.RowKit
theorem cell.cut {w:World} {p:Nat} {A:Option Addr} {n c:Nat} {e:Int} {bs:List Nat} (h:w.heap[p]?=some (.cells #[.slice A n c,.int .i64 e] 78 (0,0))) (hl:bs.length=n) (hc:n≤c) (hr:Rd w p A n (bv bs)) (hb:∀ x ∈ bs,x<256) (hm:n≤140737488355328) (W:Nat) (hW:W≤n) (A':Option Addr) (c':Nat) (hA:A'=if c=W then A else A.map (·.add W)) (hc':c'=c - W) :
  RdrIn (w.setCell ⟨p,0,none⟩ (.slice A' (n - W) c')) p ⟨bs.drop W,e⟩:=by
 have hp:p<w.heap.size:=(Array.getElem?_eq_some_iff.1 h).1
 refine ⟨A',n - W,c',set0 h,by rw [List.length_drop,hl],by omega,?_,fun x hx=>hb x (List.mem_of_mem_drop hx),by omega⟩
 rw [hA]
 have h1:Rd w p (if c=W then A else A.map (·.add (W * 1))) ((n - W) * 1) ((bv bs).drop (W * 1)):=Rd.tail9 (m:=1) (by rw [Nat.mul_one];exact hr) W hW hc
 rw [Nat.mul_one,Nat.mul_one,bv_drop] at h1
 exact h1.below (grown_below (grown_set _) (Nat.le_of_lt hp) (Nat.le_refl _)) (Nat.le_refl _)
theorem number_any (s:Rs) (p:Nat) (w:World) (h:RdrIn w p s) :
  Calls Tryd.prog 74 #[.pointer (some ⟨p,0,none⟩)] w fun e w'=>e=.returned (.int .i64 (numR s).1)∧RdrIn w' p (numR s).2∧w.grownBy w' (some p):=by
 have HH:=Lib.hid h
 obtain ⟨bs,se⟩:=s
 obtain ⟨A,n,c,h1,h2,h3,h4,h5,h6⟩:=h
 have H1:=Lib.hid h1
 have H4:=Lib.hid h4
 obtain ⟨c0,c1,fz⟩:=pair_cells h1
 have f1:=fz 0
 simp only at h1 h2 h3 h4 h5 h6
 have hp:=HH.out.lt
 have HD:Hid (Below w.heap.size w w.drew):=⟨rfl,rfl,rfl,Nat.le_refl _,fun _ _=>rfl⟩
 obtain ⟨m,hm⟩:∃ m,Hid (m=min n 8):=⟨_,rfl⟩
 have hmn:Hid (m≤n):=by have:=hm.out;show m≤n;omega
 have hmc:(m:Int)≤(c:Int):=by have:=hmn.out;omega
 have hd:=dec_min bs
 rw [h2,show min n 8=m from hm.out.symm] at hd
 have hlm:(bs.take m).length=m:=by rw [List.length_take,h2];have:=hmn.out;omega
 have hbm:∀ x ∈ bs.take m,x<256:=fun x hx=>h5 x (List.mem_of_mem_take hx)
 have hrm:Rd w p A m (bv (bs.take m)):=by have:=h4.head m hmn.out;rw [bv_take] at this;exact this
 have hmm:m≤140737488355328:=by have:=hmn.out;omega
 have hmI:Hid ((if (8:Int)<(n:Int) then (8:Int) else (n:Int))=(m:Int)):=by have:=hm.out;show _=_;split <;> omega
 cases hdd:dec bs with
 | none =>
   have e1:numR ⟨bs,se⟩=(0,needR ⟨bs,se⟩ false 3):=by unfold numR;simp only [hdd]
   rw [e1]
   have HT:Hid (Calls Tryd.prog 87 #[.slice A m c] w.drew fun e w'=>e=.returned (.tuple #[.int .i64 0,.slice none 0 0,.int .i64 3])∧w.drew=w'):=by
    have:=take_none (bs.take m) p A c w.drew (by rw [hlm];exact hrm.drew) hbm (by rw [hlm];have:=hmn.out;omega) (by rw [hlm];omega) (hd.trans hdd)
    rw [hlm] at this
    exact this
   have HN:Hid (Calls Tryd.prog 78 #[.pointer (some ⟨p,0,none⟩),.bool false,.int .i64 3] w.drew fun e w'=>e=.returned (.bool false)∧RdrIn w' p (needR ⟨bs,se⟩ false 3)∧w.grownBy w' (some p)):=by
    refine (need_any ⟨bs,se⟩ p false 3 w.drew (HH.out.below HD.out)).mono ?_
    rintro e w' ⟨rfl,hr,hg⟩
    refine ⟨ret_bool ?_,hr,grown_trans (below_grown HD.out p) hg⟩
    unfold needR
    split
    ·rfl
    ·rename_i hne
     have:se≠0:=fun h=>hne ⟨h,rfl⟩
     simpa using this
   clear h1 h4 fz HH e1 hdd hd hlm hbm hrm h5 h2
   go_enter Tryd.func74,Tryd.ntmps74
   go_wp2_with fail
   refine wp_region_held_drew (S:=fun W'=>W'.cell? ⟨p,0,none⟩=some (.slice A n c)) (by kernel_rfl) ?_ (fun hHeld=>?_)
   ·exact c0
   refine wpAnyH_take (i:=0) (v:=?_) rfl (by kernel_rfl) (by kernel_rfl) (by kernel_rfl) (fun _ _ _ h=>h) (Or.inl ⟨by rfl,?_⟩) (by assumption) ?_
   rotate_left
   ·intro w hSw;(try dsimp only at hSw);go_simp;try with_reducible rfl
   go_simp
   refine wpAnyH_take (i:=1) (v:=?_) rfl (by kernel_rfl) (by kernel_rfl) (by kernel_rfl) (fun _ _ _ h=>h) (Or.inl ⟨by rfl,?_⟩) (by assumption) ?_
   rotate_left
   ·intro w hSw;(try dsimp only at hSw);go_simp;try with_reducible rfl
   go_simp
   refine wpAnyH_take (i:=2) (v:=?_) rfl (by kernel_rfl) (by kernel_rfl) (by kernel_rfl) (fun _ _ _ h=>h) (Or.inl ⟨by rfl,?_⟩) (by assumption) ?_
   rotate_left
   ·intro w hSw;(try dsimp only at hSw);go_simp;try with_reducible rfl
   go_simp
   refine wpAnyH_take (i:=3) (v:=?_) rfl (by kernel_rfl) (by kernel_rfl) (by kernel_rfl) (fun _ _ _ h=>h) (Or.inl ⟨by rfl,?_⟩) (by assumption) ?_
   rotate_left
   ·intro w hSw;(try dsimp only at hSw);go_simp;try with_reducible rfl
   go_simp
   refine wpAnyH_take (i:=4) (v:=?_) rfl (by kernel_rfl) (by kernel_rfl) (by kernel_rfl) (fun _ _ _ h=>h) (Or.inl ⟨by rfl,?_⟩) (by assumption) ?_
   rotate_left
   ·intro w hSw;(try dsimp only at hSw);go_simp;try with_reducible rfl
   go_simp
   refine wpAnyH_take (i:=5) (v:=?_) rfl (by kernel_rfl) (by kernel_rfl) (by kernel_rfl) (fun _ _ _ h=>h) (Or.inl ⟨by rfl,?_⟩) (by assumption) ?_
   rotate_left
   ·intro w hSw;(try dsimp only at hSw);go_simp;try with_reducible rfl
   go_simp
   refine wpAnyH_take (i:=6) (v:=?_) rfl (by kernel_rfl) (by kernel_rfl) (by kernel_rfl) (fun _ _ _ h=>h) (Or.inl ⟨by rfl,?_⟩) (by assumption) ?_
   rotate_left
   ·intro w hSw;(try dsimp only at hSw);go_simp;try with_reducible rfl
   go_simp
   refine wpAnyH_take (i:=7) (v:=?_) rfl (by kernel_rfl) (by kernel_rfl) (by kernel_rfl) (fun _ _ _ h=>h) (Or.inl ⟨by rfl,?_⟩) (by assumption) ?_
   rotate_left
   ·intro w hSw;(try dsimp only at hSw);go_simp;try with_reducible rfl
   go_simp
   refine wpAnyH_take (i:=8) (v:=?_) rfl (by kernel_rfl) (by kernel_rfl) (by kernel_rfl) (fun _ _ _ h=>h) (Or.inl ⟨by rfl,?_⟩) (by assumption) ?_
   rotate_left
   ·intro w hSw;(try dsimp only at hSw);go_simp;try with_reducible rfl
   go_simp
   refine wpAnyH_take (i:=9) (v:=.int .i64 (m:Int)) rfl (by kernel_rfl) (by kernel_rfl) (by kernel_rfl) (fun _ _ _ h=>h) (Or.inl ⟨by rfl,?_⟩) (by assumption) ?_
   ·intro w hSw;(try dsimp only at hSw);go_simp;rw [hmI.out]
   go_simp
   refine wpAnyH_take (i:=10) (v:=?_) rfl (by kernel_rfl) (by kernel_rfl) (by kernel_rfl) (fun _ _ _ h=>h) (Or.inl ⟨by rfl,?_⟩) (by assumption) ?_
   rotate_left
   ·intro w hSw;(try dsimp only at hSw);go_simp;try with_reducible rfl
   go_simp
   refine wpAnyH_take (i:=11) (v:=?_) rfl (by kernel_rfl) (by kernel_rfl) (by kernel_rfl) (fun _ _ _ h=>h) (Or.inl ⟨by rfl,?_⟩) (by assumption) ?_
   rotate_left
   ·intro w hSw;(try dsimp only at hSw);go_simp;try with_reducible rfl
   go_simp
   refine wpAnyH_done (by kernel_rfl) ?_ _
   go_wp2_with (first | (go_at_call 87;refine HT.out.mono ?_;rintro e w' ⟨rfl,hw⟩;subst hw) | (go_at_call 78;refine HN.out.mono ?_;rintro e w3 ⟨rfl,hr,hg⟩;have HR:=Lib.hid hr;have HG:=Lib.hid hg;clear hr hg))
   go_ret
   exact ⟨rfl,HR.out,HG.out⟩
 | some vW =>
   obtain ⟨v,W⟩:=vW
   have hd':=hd.trans hdd
   obtain ⟨hW0,hWm,hW8⟩:=dec_le hd'
   rw [hlm] at hWm
   have hv:=dec_lt hbm hd'
   have HT:Hid (Calls Tryd.prog 87 #[.slice A m c] w.drew fun e w'=>∃ A' c',e=.returned (.tuple #[.int .i64 (v:Int),.slice A' (m - W) c',.int .i64 0])∧Hid (Below w.heap.size w w')):=by
    have:=take_yes (bs.take m) p A c w.drew (by rw [hlm];exact hrm.drew) (Nat.le_of_lt hp) hbm (by rw [hlm];have:=hmn.out;omega) (by rw [hlm];omega) v W hd'
    rw [hlm] at this
    refine this.mono ?_
    rintro e w' ⟨A',c',rfl,hx⟩
    exact ⟨A',c',rfl,Lib.hid (HD.out.trans hx.out.2.2.2)⟩
   by_cases he:se=0
   ·subst he
    have e1:numR ⟨bs,0⟩=((v:Int),⟨bs.drop W,0⟩):=by unfold numR;simp only [hdd,if_true]
    rw [e1]
    have HN:Hid (∀ w2,Below w.heap.size w w2→Calls Tryd.prog 78 #[.pointer (some ⟨p,0,none⟩),.bool true,.int .i64 0] w2 fun e w'=>e=.returned (.bool true)∧RdrIn w' p ⟨bs,0⟩∧w.grownBy w' (some p)):=by
     intro w2 hb2
     refine (need_any ⟨bs,0⟩ p true 0 w2 (HH.out.below hb2)).mono ?_
     have e2:needR ⟨bs,0⟩ true 0=⟨bs,0⟩:=by unfold needR;rw [if_neg (by simp)]
     rw [e2]
     rintro e w' ⟨rfl,hr,hg⟩
     exact ⟨rfl,hr,grown_trans (below_grown hb2 p) hg⟩
    have HWI:Hid (IntKind.i64.wrap ((m:Int) - ((m - W:Nat):Int))=(W:Int)):=by show _=_;rw [IntWalk.i64_in _ (by omega)];omega
    have HL:=Lib.hid h2
    have H5:=Lib.hid h5
    have hWn:Hid (W≤n):=Nat.le_trans hWm hmn.out
    clear h1 h4 fz HH e1 hdd hd hlm hbm hrm h5 h2 hd' c1 f1 H1 H4
    go_enter Tryd.func74,Tryd.ntmps74
    go_wp2_with fail
    refine wp_region_held_drew (S:=fun W'=>W'.cell? ⟨p,0,none⟩=some (.slice A n c)) (by kernel_rfl) ?_ (fun hHeld=>?_)
    ·exact c0
    refine wpAnyH_take (i:=0) (v:=?_) rfl (by kernel_rfl) (by kernel_rfl) (by kernel_rfl) (fun _ _ _ h=>h) (Or.inl ⟨by rfl,?_⟩) (by assumption) ?_
    rotate_left
    ·intro w hSw;(try dsimp only at hSw);go_simp;try with_reducible rfl
    go_simp
    refine wpAnyH_take (i:=1) (v:=?_) rfl (by kernel_rfl) (by kernel_rfl) (by kernel_rfl) (fun _ _ _ h=>h) (Or.inl ⟨by rfl,?_⟩) (by assumption) ?_
    rotate_left
    ·intro w hSw;(try dsimp only at hSw);go_simp;try with_reducible rfl
    go_simp
    refine wpAnyH_take (i:=2) (v:=?_) rfl (by kernel_rfl) (by kernel_rfl) (by kernel_rfl) (fun _ _ _ h=>h) (Or.inl ⟨by rfl,?_⟩) (by assumption) ?_
    rotate_left
    ·intro w hSw;(try dsimp only at hSw);go_simp;try with_reducible rfl
    go_simp
    refine wpAnyH_take (i:=3) (v:=?_) rfl (by kernel_rfl) (by kernel_rfl) (by kernel_rfl) (fun _ _ _ h=>h) (Or.inl ⟨by rfl,?_⟩) (by assumption) ?_
    rotate_left
    ·intro w hSw;(try dsimp only at hSw);go_simp;try with_reducible rfl
    go_simp
    refine wpAnyH_take (i:=4) (v:=?_) rfl (by kernel_rfl) (by kernel_rfl) (by kernel_rfl) (fun _ _ _ h=>h) (Or.inl ⟨by rfl,?_⟩) (by assumption) ?_
    rotate_left
    ·intro w hSw;(try dsimp only at hSw);go_simp;try with_reducible rfl
    go_simp
    refine wpAnyH_take (i:=5) (v:=?_) rfl (by kernel_rfl) (by kernel_rfl) (by kernel_rfl) (fun _ _ _ h=>h) (Or.inl ⟨by rfl,?_⟩) (by assumption) ?_
    rotate_left
    ·intro w hSw;(try dsimp only at hSw);go_simp;try with_reducible rfl
    go_simp
    refine wpAnyH_take (i:=6) (v:=?_) rfl (by kernel_rfl) (by kernel_rfl) (by kernel_rfl) (fun _ _ _ h=>h) (Or.inl ⟨by rfl,?_⟩) (by assumption) ?_
    rotate_left
    ·intro w hSw;(try dsimp only at hSw);go_simp;try with_reducible rfl
    go_simp
    refine wpAnyH_take (i:=7) (v:=?_) rfl (by kernel_rfl) (by kernel_rfl) (by kernel_rfl) (fun _ _ _ h=>h) (Or.inl ⟨by rfl,?_⟩) (by assumption) ?_
    rotate_left
    ·intro w hSw;(try dsimp only at hSw);go_simp;try with_reducible rfl
    go_simp
    refine wpAnyH_take (i:=8) (v:=?_) rfl (by kernel_rfl) (by kernel_rfl) (by kernel_rfl) (fun _ _ _ h=>h) (Or.inl ⟨by rfl,?_⟩) (by assumption) ?_
    rotate_left
    ·intro w hSw;(try dsimp only at hSw);go_simp;try with_reducible rfl
    go_simp
    refine wpAnyH_take (i:=9) (v:=.int .i64 (m:Int)) rfl (by kernel_rfl) (by kernel_rfl) (by kernel_rfl) (fun _ _ _ h=>h) (Or.inl ⟨by rfl,?_⟩) (by assumption) ?_
    ·intro w hSw;(try dsimp only at hSw);go_simp;rw [hmI.out]
    go_simp
    refine wpAnyH_take (i:=10) (v:=?_) rfl (by kernel_rfl) (by kernel_rfl) (by kernel_rfl) (fun _ _ _ h=>h) (Or.inl ⟨by rfl,?_⟩) (by assumption) ?_
    rotate_left
    ·intro w hSw;(try dsimp only at hSw);go_simp;try with_reducible rfl
    go_simp
    refine wpAnyH_take (i:=11) (v:=?_) rfl (by kernel_rfl) (by kernel_rfl) (by kernel_rfl) (fun _ _ _ h=>h) (Or.inl ⟨by rfl,?_⟩) (by assumption) ?_
    rotate_left
    ·intro w hSw;(try dsimp only at hSw);go_simp;try with_reducible rfl
    go_simp
    refine wpAnyH_done (by kernel_rfl) ?_ _
    go_wp2_with (go_at_call 87;refine HT.out.mono ?_;rintro e w2 ⟨A',c',rfl,hb2⟩)
    go_wp2_with fail
    refine (HN.out _ hb2.out).mono ?_
    rintro e w3 ⟨rfl,hr,hg⟩
    have HG:=Lib.hid hg
    have HR:=Lib.hid hr
    obtain ⟨A3,n3,c3,k1,k2,k3,k4,k5,k6⟩:=hr
    obtain ⟨d0,d1,fz⟩:=pair_cells k1
    have g0:=fz 0
    have hn3:Hid (n3=n):=by have:=HL.out;simp only at k2;show n3=n;omega
    have hw1:(W:Int)≤(n3:Int):=by have:=hWn.out;have:=hn3.out;omega
    have hw2:(n3:Int)≤(c3:Int):=by omega
    have hw3:(W:Int)≤(c3:Int):=by omega
    have hmw:(m:Int) - ((m - W:Nat):Int)=(W:Int):=by omega
    have K1:=Lib.hid k1
    have K4:=Lib.hid k4
    have hk2:=Lib.hid k2
    have hnc:=Lib.hid k3
    clear hg k1 k4 fz k2 k5 HT HN
    go_wp2_with fail
    ·go_ret
     refine ⟨rfl,cell.cut K1.out hk2.out hnc.out K4.out H5.out k6 W (Int.ofNat_le.1 hw1) A3 0 (by rw [if_pos (by omega)]) (by omega),grown_trans HG.out (grown_set _)⟩
    ·go_ret
     refine ⟨rfl,cell.cut K1.out hk2.out hnc.out K4.out H5.out k6 W (Int.ofNat_le.1 hw1) _ _ (by rw [if_neg (by omega)]) rfl,grown_trans HG.out (grown_set _)⟩
   ·have e1:numR ⟨bs,se⟩=(0,⟨bs,se⟩):=by unfold numR;simp only [hdd,if_neg he]
    rw [e1]
    have e3:(se == 0)=false:=by simpa using he
    have HN:Hid (∀ w2,Below w.heap.size w w2→Calls Tryd.prog 78 #[.pointer (some ⟨p,0,none⟩),.bool true,.int .i64 0] w2 fun e w'=>e=.returned (.bool false)∧RdrIn w' p ⟨bs,se⟩∧w.grownBy w' (some p)):=by
     intro w2 hb2
     refine (need_any ⟨bs,se⟩ p true 0 w2 (HH.out.below hb2)).mono ?_
     have e2:needR ⟨bs,se⟩ true 0=⟨bs,se⟩:=by unfold needR;rw [if_neg (by simp)]
     rw [e2]
     rintro e w' ⟨rfl,hr,hg⟩
     exact ⟨ret_bool e3,hr,grown_trans (below_grown hb2 p) hg⟩
    clear h1 h4 fz HH e1 hdd hd hlm hbm hrm h5 h2 hd' c1 f1 H1 H4 e3 he
    go_enter Tryd.func74,Tryd.ntmps74
    go_wp2_with fail
    refine wp_region_held_drew (S:=fun W'=>W'.cell? ⟨p,0,none⟩=some (.slice A n c)) (by kernel_rfl) ?_ (fun hHeld=>?_)
    ·exact c0
    refine wpAnyH_take (i:=0) (v:=?_) rfl (by kernel_rfl) (by kernel_rfl) (by kernel_rfl) (fun _ _ _ h=>h) (Or.inl ⟨by rfl,?_⟩) (by assumption) ?_
    rotate_left
    ·intro w hSw;(try dsimp only at hSw);go_simp;try with_reducible rfl
    go_simp
    refine wpAnyH_take (i:=1) (v:=?_) rfl (by kernel_rfl) (by kernel_rfl) (by kernel_rfl) (fun _ _ _ h=>h) (Or.inl ⟨by rfl,?_⟩) (by assumption) ?_
    rotate_left
    ·intro w hSw;(try dsimp only at hSw);go_simp;try with_reducible rfl
    go_simp
    refine wpAnyH_take (i:=2) (v:=?_) rfl (by kernel_rfl) (by kernel_rfl) (by kernel_rfl) (fun _ _ _ h=>h) (Or.inl ⟨by rfl,?_⟩) (by assumption) ?_
    rotate_left
    ·intro w hSw;(try dsimp only at hSw);go_simp;try with_reducible rfl
    go_simp
    refine wpAnyH_take (i:=3) (v:=?_) rfl (by kernel_rfl) (by kernel_rfl) (by kernel_rfl) (fun _ _ _ h=>h) (Or.inl ⟨by rfl,?_⟩) (by assumption) ?_
    rotate_left
    ·intro w hSw;(try dsimp only at hSw);go_simp;try with_reducible rfl
    go_simp
    refine wpAnyH_take (i:=4) (v:=?_) rfl (by kernel_rfl) (by kernel_rfl) (by kernel_rfl) (fun _ _ _ h=>h) (Or.inl ⟨by rfl,?_⟩) (by assumption) ?_
    rotate_left
    ·intro w hSw;(try dsimp only at hSw);go_simp;try with_reducible rfl
    go_simp
    refine wpAnyH_take (i:=5) (v:=?_) rfl (by kernel_rfl) (by kernel_rfl) (by kernel_rfl) (fun _ _ _ h=>h) (Or.inl ⟨by rfl,?_⟩) (by assumption) ?_
    rotate_left
    ·intro w hSw;(try dsimp only at hSw);go_simp;try with_reducible rfl
    go_simp
    refine wpAnyH_take (i:=6) (v:=?_) rfl (by kernel_rfl) (by kernel_rfl) (by kernel_rfl) (fun _ _ _ h=>h) (Or.inl ⟨by rfl,?_⟩) (by assumption) ?_
    rotate_left
    ·intro w hSw;(try dsimp only at hSw);go_simp;try with_reducible rfl
    go_simp
    refine wpAnyH_take (i:=7) (v:=?_) rfl (by kernel_rfl) (by kernel_rfl) (by kernel_rfl) (fun _ _ _ h=>h) (Or.inl ⟨by rfl,?_⟩) (by assumption) ?_
    rotate_left
    ·intro w hSw;(try dsimp only at hSw);go_simp;try with_reducible rfl
    go_simp
    refine wpAnyH_take (i:=8) (v:=?_) rfl (by kernel_rfl) (by kernel_rfl) (by kernel_rfl) (fun _ _ _ h=>h) (Or.inl ⟨by rfl,?_⟩) (by assumption) ?_
    rotate_left
    ·intro w hSw;(try dsimp only at hSw);go_simp;try with_reducible rfl
    go_simp
    refine wpAnyH_take (i:=9) (v:=.int .i64 (m:Int)) rfl (by kernel_rfl) (by kernel_rfl) (by kernel_rfl) (fun _ _ _ h=>h) (Or.inl ⟨by rfl,?_⟩) (by assumption) ?_
    ·intro w hSw;(try dsimp only at hSw);go_simp;rw [hmI.out]
    go_simp
    refine wpAnyH_take (i:=10) (v:=?_) rfl (by kernel_rfl) (by kernel_rfl) (by kernel_rfl) (fun _ _ _ h=>h) (Or.inl ⟨by rfl,?_⟩) (by assumption) ?_
    rotate_left
    ·intro w hSw;(try dsimp only at hSw);go_simp;try with_reducible rfl
    go_simp
    refine wpAnyH_take (i:=11) (v:=?_) rfl (by kernel_rfl) (by kernel_rfl) (by kernel_rfl) (fun _ _ _ h=>h) (Or.inl ⟨by rfl,?_⟩) (by assumption) ?_
    rotate_left
    ·intro w hSw;(try dsimp only at hSw);go_simp;try with_reducible rfl
    go_simp
    refine wpAnyH_done (by kernel_rfl) ?_ _
    go_wp2_with (first | (go_at_call 87;refine HT.out.mono ?_;rintro e w2 ⟨A',c',rfl,hb2⟩) | (go_at_call 78;refine (HN.out _ hb2.out).mono ?_;rintro e w3 ⟨rfl,hr,hg⟩;have HR:=Lib.hid hr;have HG:=Lib.hid hg;clear hr hg))
    go_ret
    exact ⟨rfl,HR.out,HG.out⟩
end Go.Proofs.YtccljifichaieaaDoor
namespace Go.Proofs.YtccljifichaieaaDoor
open Go Go.RowKit
theorem RdrIn.belowP {w w':World} {p:Nat} {s:Rs} (h:RdrIn w p s) (hb:Below (p+1) w w'):RdrIn w' p s:=by
 obtain ⟨A,n,c,h1,h2,h3,h4,h5⟩:=h
 exact ⟨A,n,c,(hb.block p (by omega)).trans h1,h2,h3,h4.below hb (by omega),h5⟩
theorem RdrIn.setNew {w:World} {p g o:Nat} {s:Rs} {u:Value} (h:RdrIn w p s) (hg:p<g):RdrIn (w.setCell ⟨g,o,none⟩ u) p s :=
 h.belowP (grown_below (grown_set u) (by have:=h.lt;omega) (by omega))
theorem RdrIn.allocs {w:World} {p:Nat} {s:Rs} {x:Obj} (h:RdrIn w p s):RdrIn (w.alloc x) p s :=
 h.below ((Below.refl _ _).alloc (Nat.le_refl _) _)
theorem grown_new {a b:World} {p g o:Nat} {u:Value} (h:a.grownBy b (some p)) (hg:a.heap.size≤g):a.grownBy (b.setCell ⟨g,o,none⟩ u) (some p) :=
 ⟨h.os,h.tape,h.output,Nat.le_trans h.size (by simp [World.setCell]),fun k hk hne=>(Below.heap_setCell _ _ _ _ (by simp;omega)).trans (h.block k hk hne)⟩
theorem grown_alloc {w:World} {p:Nat} (x:Obj):w.grownBy (w.alloc x) (some p):=below_grown ((Below.refl _ _).alloc (Nat.le_refl _) _) p
def flagR (s:Rs):Bool × Rs:=((numR s).1 == 1,needR (numR s).2 (decide ((numR s).1≤1)) 2)
theorem flag_any (s:Rs) (p:Nat) (w:World) (h:RdrIn w p s) :
  Calls Tryd.prog 75 #[.pointer (some ⟨p,0,none⟩)] w fun e w'=>e=.returned (.bool (flagR s).1)∧RdrIn w' p (flagR s).2∧w.grownBy w' (some p):=by
 have HNU:=number_any s p w h
 unfold flagR
 obtain ⟨n,hn⟩:∃ x,(numR s).1=x:=⟨_,rfl⟩
 obtain ⟨s1,h1⟩:∃ x,(numR s).2=x:=⟨_,rfl⟩
 rw [hn,h1] at HNU ⊢
 have HNU:=Lib.hid HNU
 simp only
 have HNE:=Lib.hid (fun W h=>need_any s1 p (decide (n≤1)) 2 W h)
 clear hn h1
 go_enter Tryd.func75,Tryd.ntmps75
 go_wp2_with fail
 refine HNU.out.mono ?_
 rintro e w1 ⟨rfl,hr,hg⟩
 have HR:=Lib.hid hr
 have HG:=Lib.hid hg
 clear hr hg
 go_wp2_with fail
 refine (HNE.out _ HR.out).mono ?_
 rintro e w2 ⟨rfl,hr,hg⟩
 have HR2:=Lib.hid hr
 have HG2:=Lib.hid hg
 clear hr hg
 go_wp2_with fail
 go_ret
 exact ⟨rfl,HR2.out,grown_trans HG.out HG2.out⟩
def runS (s:Rs) (last:Int):Int × Rs :=
 (wrap64 (last - (numR (needR s (decide (0≤last)) 2)).1),needR (numR (needR s (decide (0≤last)) 2)).2 (decide ((numR (needR s (decide (0≤last)) 2)).1≤last)) 2)
theorem run_any (s:Rs) (last:Int) (p:Nat) (w:World) (h:RdrIn w p s) :
  Calls Tryd.prog 88 #[.pointer (some ⟨p,0,none⟩),.int .i64 last] w fun e w'=>e=.returned (.agg #[.int .i64 (runS s last).1,.int .i64 last])∧RdrIn w' p (runS s last).2∧w.grownBy w' (some p):=by
 have HH:=Lib.hid h
 unfold runS
 have HN0:=Lib.hid (fun W h=>need_any s p (decide (0≤last)) 2 W h)
 obtain ⟨s1,h1⟩:∃ x,needR s (decide (0≤last)) 2=x:=⟨_,rfl⟩
 rw [h1] at HN0 ⊢
 have HNU:=fun W h=>number_any s1 p W h
 obtain ⟨n,hn⟩:∃ x,(numR s1).1=x:=⟨_,rfl⟩
 obtain ⟨s2,h2⟩:∃ x,(numR s1).2=x:=⟨_,rfl⟩
 rw [hn,h2] at HNU ⊢
 have HNU:=Lib.hid HNU
 simp only
 have HNE:=Lib.hid (fun W h=>need_any s2 p (decide (n≤last)) 2 W h)
 clear hn h1 h2 h
 go_enter Tryd.func88,Tryd.ntmps88
 go_wp2_with fail
 refine (HN0.out _ HH.out.allocs).mono ?_
 rintro e w1 ⟨rfl,hr,hg⟩
 have HR:=Lib.hid hr
 have HG:=Lib.hid (grown_trans (grown_alloc _) hg)
 have hx0:w1.heap[w.heap.size]?=(w.alloc (.cells #[.int .i64 0,.int .i64 0] 67)).heap[w.heap.size]?:=hg.block _ (by simp) (fun e=>by cases e;exact absurd HH.out.lt (by omega))
 have HX:=Lib.hid hx0
 clear hx0 hr hg
 go_wp2_with fail
 refine (HNU.out _ HR.out).mono ?_
 rintro e w2 ⟨rfl,hr,hg⟩
 have HR2:=Lib.hid hr
 have HG2:=Lib.hid hg
 clear hr hg
 go_wp2_with fail
 refine (HNE.out _ HR2.out).mono ?_
 rintro e w3 ⟨rfl,hr,hg⟩
 have HR3:=Lib.hid hr
 have HG3:=Lib.hid hg
 clear hr hg
 have hw1:w.heap.size<w1.heap.size:=by have:=HG.out.size;exact (Array.getElem?_eq_some_iff.1 (HX.out.trans (heap_alloc_new _ _))).1
 have hpw:p<w.heap.size:=HH.out.lt
 have hx3:w3.heap[w.heap.size]?=some (.cells #[.int .i64 0,.int .i64 0] 67 (0,0)):=by
  rw [HG3.out.block _ (Nat.lt_of_lt_of_le hw1 HG2.out.size) (fun e=>by cases e;omega),HG2.out.block _ hw1 (fun e=>by cases e;omega),HX.out]
  exact heap_alloc_new _ _
 obtain ⟨c0,c1,fz⟩:=pair_cells hx3
 have f0:=fz 0
 have f1:=fz 1
 have HX3:=Lib.hid hx3
 clear fz hx3
 go_wp2_with fail
 (try simp only [Exit.inBlock,Exit.then])
 refine bodyPost_ret (results_cell_row rfl _ _ w.heap.size 67 _ (0,0) (.array 2 3) rfl (set1 (set0 HX3.out)) (by kernel_rfl) rfl (by kernel_rfl)) rfl ?_
 exact ⟨rfl,(HR3.out.setNew hpw).setNew hpw,grown_new (grown_new (grown_trans (grown_trans HG.out HG2.out) HG3.out) (Nat.le_refl _)) (Nat.le_refl _)⟩
end Go.Proofs.YtccljifichaieaaDoor
namespace Go.Proofs.YtccljifichaieaaDoor
open Go Go.RowKit
theorem needR_zero {s:Rs} {ok:Bool} {e:Int} (he:e≠0) (h:(needR s ok e).e=0):needR s ok e=s∧ok=true∧s.e=0:=by
 unfold needR at h ⊢
 split at h
 ·exact absurd h he
 ·rename_i hc
  rw [if_neg hc]
  refine ⟨rfl,?_,h⟩
  cases ok
  ·exact absurd ⟨h,rfl⟩ hc
  ·rfl
theorem needR_bs (s:Rs) (ok:Bool) (e:Int):(needR s ok e).bs=s.bs:=by unfold needR;split <;> rfl
theorem numR_nn (s:Rs):0≤(numR s).1:=by
 unfold numR
 split
 ·exact Int.le_refl _
 ·split
  ·exact Int.natCast_nonneg _
  ·exact Int.le_refl _
theorem step_make {P:Program} {ops:Array Oper} {o:Oper} {a:Act} {w:World} {K:Act→World→Prop} {Q:Exit→Act→World→Prop} {E:Prop}
  (hg:o.guard=none) (l c:Operand) (t:TypeId) (hop:o.op=Op.makeSlice t l c)
  (base:Nat) (e:TypeId) (i:TypeInfo) (z:Value) (size:Nat) (h1:P.underlying t=some (.slice e)) (h2:P.info? e=some i) (h3:i.zero=some z) (h4:i.size=size)
  (kl kc:IntKind) (C:Int) (n:Nat) (hl:a.eval l=.int kl 0) (hc:a.eval c=.int kc C) (hC:C=(n:Int)) (b2:i.bytes * n≤281474976710656) (b3:n≤maxLen) (b4:base≤w.heap.size)
  (hK:∀ w',w'.ownsRow base e size (.slice (some ⟨w.heap.size,0,none⟩) 0 n) 0 []→w.grownBy w' none→K (a.put o.dst (.slice (some ⟨w.heap.size,0,none⟩) 0 n)) w') :
  if Region.wanted o (yielded ops a.tmps)=true then Oper.wp P o a w K Q else E:=by
 have hw:Region.wanted o (yielded ops a.tmps)=true:=by simp [Region.wanted,hg]
 rw [if_pos hw]
 obtain ⟨w',hrun,r1,r2⟩:=run_make_own (P:=P) w base t e i z size h1 h2 h3 h4 kl kc n b2 b3 b4
 subst hC
 unfold Oper.wp
 simp [execOp,hop,hl,hc,hrun,Result.andThen]
 exact hK _ r1 r2
theorem infoU8:(Tryd.prog.info? 5).map (fun i=>(i.zero,i.size,i.bytes))=some (some (.int .u8 0),1,1):=by kernel_rfl
def dataR (s:Rs):List Nat × Rs :=
 if (needR (needR (numR s).2 (decide ((numR s).1≤120)) 2) (decide ((numR s).1≤((needR (numR s).2 (decide ((numR s).1≤120)) 2).bs.length:Int))) 3).e=0
 then ((needR (numR s).2 (decide ((numR s).1≤120)) 2).bs.take (numR s).1.toNat,⟨(needR (numR s).2 (decide ((numR s).1≤120)) 2).bs.drop (numR s).1.toNat,0⟩)
 else ([],needR (needR (numR s).2 (decide ((numR s).1≤120)) 2) (decide ((numR s).1≤((needR (numR s).2 (decide ((numR s).1≤120)) 2).bs.length:Int))) 3)
def DataP (d:List Nat) (s':Rs) (p:Nat) (w:World) (e:Ending) (w':World):Prop :=
 ∃ A c,e=.returned (.slice A d.length c)∧w'.ownsRow w.heap.size 5 1 (.slice A d.length c) d.length (bv d)∧RdrIn w' p s'∧w.grownBy w' (some p)
theorem data_any (s:Rs) (p:Nat) (w:World) (h:RdrIn w p s) :
  Calls Tryd.prog 76 #[.pointer (some ⟨p,0,none⟩)] w (DataP (dataR s).1 (dataR s).2 p w):=by
 have HNU:=number_any s p w h
 have hnn:=numR_nn s
 have hpw:=h.lt
 unfold dataR
 obtain ⟨n,hn⟩:∃ x,(numR s).1=x:=⟨_,rfl⟩
 obtain ⟨s1,h1⟩:∃ x,(numR s).2=x:=⟨_,rfl⟩
 rw [hn,h1] at HNU ⊢
 rw [hn] at hnn
 have HNU:=Lib.hid HNU
 have HN1:=fun W h=>need_any s1 p (decide (n≤120)) 2 W h
 have hz2:(needR s1 (decide (n≤120)) 2).e=0→n≤120:=fun h=>by simpa using (needR_zero (by decide) h).2.1
 obtain ⟨s2,h2⟩:∃ x,needR s1 (decide (n≤120)) 2=x:=⟨_,rfl⟩
 rw [h2] at HN1 hz2 ⊢
 have HN1:=Lib.hid HN1
 have HN2:=fun W h=>need_any s2 p (decide (n≤(s2.bs.length:Int))) 3 W h
 have hz3:(needR s2 (decide (n≤(s2.bs.length:Int))) 3).e=0→needR s2 (decide (n≤(s2.bs.length:Int))) 3=s2∧n≤(s2.bs.length:Int)∧s2.e=0:=fun h=>⟨(needR_zero (by decide) h).1,by simpa using (needR_zero (by decide) h).2.1,(needR_zero (by decide) h).2.2⟩
 obtain ⟨N,hN⟩:∃ x,s2.bs.length=x:=⟨_,rfl⟩
 rw [hN] at HN2 hz3 ⊢
 obtain ⟨s3,h3⟩:∃ x,needR s2 (decide (n≤(N:Int))) 3=x:=⟨_,rfl⟩
 rw [h3] at HN2 hz3 ⊢
 have HN2:=Lib.hid HN2
 have HL:=Lib.hid hN
 by_cases he:s3.e=0
 ·rw [if_pos he]
  obtain ⟨e3,hnN,he2⟩:=hz3 he
  have hn120:=hz2 he2
  subst e3
  obtain ⟨k,hk⟩:∃ k:Nat,Hid (n=(k:Int)):=⟨n.toNat,by show _=_;omega⟩
  rw [show n.toNat=k by have:=hk.out;omega]
  have HNN:=Lib.hid hnN
  have H120:=Lib.hid hn120
  clear hnN hn120 hnn
  simp only
  have hbool:(s3.e == 0)=true:=by simpa using he
  rw [hbool] at HN2
  have HE:=Lib.hid he
  obtain ⟨i0,hi,hz0,hz1,hz2⟩:=info_parts infoU8
  have HI:=Lib.hid (And.intro hi (And.intro hz0 (And.intro hz1 hz2)))
  clear hn h1 h2 h h3 hN he he2 hbool hi hz0 hz1 hz2 hz3
  go_enter Tryd.func76,Tryd.ntmps76
  go_wp2_with fail
  refine HNU.out.mono ?_
  rintro e w1 ⟨rfl,hr,hg⟩
  have HR1:=Lib.hid hr
  have HG1:=Lib.hid hg
  clear hr hg
  go_wp2_with fail
  refine (HN1.out _ HR1.out).mono ?_
  rintro e w2 ⟨rfl,hr,hg⟩
  have HR2:=Lib.hid hr
  have HG2:=Lib.hid hg
  obtain ⟨A2,n2,c2,k1,k2,k3,k4,k5,k6⟩:=hr
  have hn2:=k2.symm.trans HL.out
  subst hn2
  obtain ⟨d0,d1,fz⟩:=pair_cells k1
  clear fz d1 k1 k2 k4 k5 hg
  go_wp2_with fail
  refine (HN2.out _ HR2.out).mono ?_
  rintro e w3 ⟨rfl,hr,hg⟩
  have HR3:=Lib.hid hr
  have HG3:=Lib.hid hg
  clear hr hg
  have hr:=HR3.out
  obtain ⟨A3,n3,c3,k1,k2,k3',k4,k5,k6'⟩:=hr
  have hn3:=k2.symm.trans HL.out
  subst hn3
  obtain ⟨q0,q1,fz⟩:=pair_cells k1
  have f0:=fz 0
  have K1:=Lib.hid k1
  have K4:=Lib.hid k4
  have K5:=Lib.hid k5
  have hp3:Hid (p<w3.heap.size):=HR3.out.lt
  have HGA:Hid (w.grownBy w3 (some p)):=grown_trans (grown_trans HG1.out HG2.out) HG3.out
  have hww:Hid (w.heap.size≤w3.heap.size):=HGA.out.size
  have hpw':=Lib.hid hpw
  have hkn:=hk.out
  subst hkn
  have hnN:=HNN.out
  have hn120:=H120.out
  have hw1:(k:Int)≤(c3:Int):=by omega
  have hw2:(n3:Int)≤(c3:Int):=by omega
  clear fz q1 k1 k2 k4 k5 d0
  go_wp2_with fail
  refine wp_region_held_drew (S:=fun W'=>W'.cell? ⟨p,0,none⟩=some (.slice A3 n3 c3)) (by kernel_rfl) ?_ (fun hHeld=>?_)
  ·exact q0
  refine wpAnyH_take (i:=0) (v:=?_) rfl (by kernel_rfl) (by kernel_rfl) (by kernel_rfl) (fun _ _ _ h=>h) (Or.inl ⟨by rfl,?_⟩) (by assumption) ?_
  rotate_left
  ·intro w hSw;(try dsimp only at hSw);go_simp;try with_reducible rfl
  go_simp
  refine wpAnyH_take (i:=2) (v:=?_) rfl (by kernel_rfl) (by kernel_rfl) (by kernel_rfl) (fun _ _ _ h=>h) (Or.inl ⟨by rfl,?_⟩) (by assumption) ?_
  rotate_left
  ·intro w hSw;(try dsimp only at hSw);go_simp;try with_reducible rfl
  go_simp
  refine wpAnyH_take (i:=3) (v:=?_) rfl (by kernel_rfl) (by kernel_rfl) (by kernel_rfl) (fun _ _ _ h=>h) (Or.inl ⟨by rfl,?_⟩) (by assumption) ?_
  rotate_left
  ·intro w hSw;(try dsimp only at hSw);go_simp;try with_reducible rfl
  go_simp
  refine wpAnyH_take (i:=4) (v:=?_) rfl (by kernel_rfl) (by kernel_rfl) (by kernel_rfl) (fun _ _ _ h=>h) (Or.inl ⟨by rfl,?_⟩) (by assumption) ?_
  rotate_left
  ·intro w hSw;(try dsimp only at hSw);go_simp;try with_reducible rfl
  go_simp
  refine wpAnyH_take (i:=5) (v:=?_) rfl (by kernel_rfl) (by kernel_rfl) (by kernel_rfl) (fun _ _ _ h=>h) (Or.inl ⟨by rfl,?_⟩) (by assumption) ?_
  rotate_left
  ·intro w hSw;(try dsimp only at hSw);go_simp;try with_reducible rfl
  go_simp
  refine wpAnyH_take (i:=6) (v:=?_) rfl (by kernel_rfl) (by kernel_rfl) (by kernel_rfl) (fun _ _ _ h=>h) (Or.inl ⟨by rfl,?_⟩) (by assumption) ?_
  rotate_left
  ·intro w hSw;(try dsimp only at hSw);go_simp;try with_reducible rfl
  go_simp
  refine wpAnyH_take (i:=7) (v:=?_) rfl (by kernel_rfl) (by kernel_rfl) (by kernel_rfl) (fun _ _ _ h=>h) (Or.inl ⟨by rfl,?_⟩) (by assumption) ?_
  rotate_left
  ·intro w hSw;(try dsimp only at hSw);go_simp;try with_reducible rfl
  go_simp
  refine wpAnyH_ready (rs:=[1]) (by kernel_rfl) (by simp) ?_
  refine AllReadyH.cons rfl (fun K hK=>?_) AllReadyH.nil
  refine step_make rfl (.const (.int .i64 0)) (.tmp 21) 24 rfl w3.heap.size 5 i0 (.int .u8 0) 1 Tryd.underlying24 HI.out.1 HI.out.2.1 HI.out.2.2.1 .i64 .i64 (k:Int) k (by simp [Act.eval]) (by simp [Act.eval,Act.put]) rfl (by rw [HI.out.2.2.2];omega) (by unfold maxLen;omega) (Nat.le_refl _) ?_
  intro w4 ho hg
  have HO4:=Lib.hid ho
  have HB4:Hid (Below w3.heap.size w3 w4):=⟨hg.os,hg.tape,hg.output,hg.size,fun j hj=>hg.block j hj (fun e=>by cases e)⟩
  clear ho hg
  refine hK.out _ _ ?_ (fun hHeld=>?_)
  ·exact HB4.out.cell (p:=⟨p,0,none⟩) hp3.out |>.trans q0
  clear hK K
  go_simp
  refine wpAnyH_ready (rs:=[8]) (by kernel_rfl) (by simp) ?_
  refine AllReadyH.cons rfl (fun K hK=>?_) AllReadyH.nil
  refine step_own rfl (.tmp 22) (.tmp 28) 24 rfl w3.heap.size 5 i0 (.int .u8 0) 1 1 Tryd.underlying24 HI.out.1 HI.out.2.1 HI.out.2.2.1 HI.out.2.2.2 rfl (by decide) (.slice (some ⟨w3.heap.size,0,none⟩) 0 k) 0 [] (by simp [Act.eval,Act.put,World.drew]) HO4.out p A3 k c3 (bv (s3.bs.take k)) (by simp [Act.eval,Act.put]) ?_ (ones_bv _) (by unfold maxLen;omega) (by omega) (by have:=HB4.out.size;exact this) ?_
  ·rw [Nat.mul_one,← bv_take]
   exact (K4.out.head k (by omega)).below HB4.out (Nat.le_of_lt hp3.out)
  intro v5 w5 ho hg
  have HO5:=Lib.hid ho
  have HB5:Hid (Below w3.heap.size w3 w5):=HB4.out.trans ⟨hg.os,hg.tape,hg.output,hg.size,fun j hj=>hg.block j (Nat.lt_of_lt_of_le hj HB4.out.size) (fun e=>by cases e;exact absurd hj (Nat.lt_irrefl _))⟩
  clear ho hg
  refine hK.out _ _ ?_ (fun hHeld=>?_)
  ·exact HB5.out.cell (p:=⟨p,0,none⟩) hp3.out |>.trans q0
  clear hK K
  go_simp
  refine wpAnyH_take (i:=9) (v:=?_) rfl (by kernel_rfl) (by kernel_rfl) (by kernel_rfl) (fun _ _ _ h=>h) (Or.inl ⟨by rfl,?_⟩) (by assumption) ?_
  rotate_left
  ·intro w hSw;(try dsimp only at hSw);go_simp;try with_reducible rfl
  go_simp
  refine wpAnyH_done (by kernel_rfl) ?_ _
  obtain ⟨A5,c5,hv5,hnc5,_,_,_⟩:=own_form HO5.out
  subst hv5
  have HK5:=Lib.hid ((HB5.out.block p hp3.out).trans K1.out)
  obtain ⟨r0,r1,fz⟩:=pair_cells HK5.out
  have g0:=fz 0
  have FIN:Hid (∀ A' c',(A'=if c3=k then A3 else A3.map (·.add k))→c'=c3 - k→DataP (s3.bs.take k) ⟨s3.bs.drop k,0⟩ p w (.returned (.slice A5 k c5)) (w5.setCell ⟨p,0,none⟩ (.slice A' (n3 - k) c'))):=by
   intro A' c' hA hc
   have hl:(s3.bs.take k).length=k:=by rw [List.length_take,HL.out];omega
   have ho:=HO5.out
   rw [Nat.zero_add,List.nil_append] at ho
   have hcut:=cell.cut HK5.out HL.out k3' (K4.out.below HB5.out (Nat.le_of_lt hp3.out)) K5.out (by omega) k (by omega) A' c' hA hc
   rw [HE.out] at hcut
   refine ⟨A5,c5,by rw [hl],?_,hcut,?_⟩
   ·rw [hl]
    exact ownsRow_setCell_below (own_base ho hww.out) (a:=⟨p,0,none⟩) hpw'.out _
   ·exact grown_trans HGA.out (grown_trans (below_grown HB5.out p) (grown_set _))
  clear fz r1
  go_wp2_with fail
  all_goals
   go_ret
   refine FIN.out _ _ ?_ ?_
   ·split <;> first | rfl | (exfalso;omega) | omega
   ·omega
 ·rw [if_neg he]
  simp only
  have hbool:(s3.e == 0)=false:=by simpa using he
  rw [hbool] at HN2
  clear hn h1 h2 h h3 hN he hbool hz2 hz3 hnn
  go_enter Tryd.func76,Tryd.ntmps76
  go_wp2_with fail
  refine HNU.out.mono ?_
  rintro e w1 ⟨rfl,hr,hg⟩
  have HR1:=Lib.hid hr
  have HG1:=Lib.hid hg
  clear hr hg
  go_wp2_with fail
  refine (HN1.out _ HR1.out).mono ?_
  rintro e w2 ⟨rfl,hr,hg⟩
  have HR2:=Lib.hid hr
  have HG2:=Lib.hid hg
  obtain ⟨A2,n2,c2,k1,k2,k3,k4,k5,k6⟩:=hr
  have hn2:=k2.symm.trans HL.out
  subst hn2
  obtain ⟨d0,d1,fz⟩:=pair_cells k1
  clear fz d1 k1 k2 k4 k5 hg
  go_wp2_with fail
  refine (HN2.out _ HR2.out).mono ?_
  rintro e w3 ⟨rfl,hr,hg⟩
  have HR3:=Lib.hid hr
  have HG3:=Lib.hid hg
  clear hr hg
  go_wp2_with fail
  go_ret
  exact ⟨none,0,rfl,own_nil _ _ _ _,HR3.out,grown_trans (grown_trans HG1.out HG2.out) HG3.out⟩
end Go.Proofs.YtccljifichaieaaDoor
namespace Go.Proofs.YtccljifichaieaaDoor
open Go Go.RowKit
theorem own_grown {w w':World} {base e size n p:Nat} {v:Value} {xs:List Value} (h:w.ownsRow base e size v n xs) (g:w.grownBy w' (some p)) (hp:p<base):w'.ownsRow base e size v n xs:=by
 refine ⟨h.1,?_⟩
 rcases h.2 with h | ⟨b,cap,cur,h1,h2,h3,h4⟩
 ·exact .inl h
 ·refine .inr ⟨b,cap,cur,h1,h2,?_,h4⟩
  rw [g.block b (Array.getElem?_eq_some_iff.1 h3).1 (fun e=>by cases e;omega)]
  exact h3
theorem grown_row {w wr w1:World} {p base:Nat} {row:Option Nat} (h:w.grownBy wr (some p)) (g:wr.grownBy w1 row) (hb:w.heap.size≤base) (hr:∀ k,row=some k→base≤k):w.grownBy w1 (some p) :=
 ⟨g.os.trans h.os,g.tape.trans h.tape,g.output.trans h.output,Nat.le_trans h.size g.size,fun k hk hne=>(g.block k (Nat.lt_of_lt_of_le hk h.size) (fun e=>by have:=hr k e.symm;omega)).trans (h.block k hk hne)⟩
theorem RdrIn.row {wr w1:World} {p base:Nat} {row:Option Nat} {s:Rs} (h:RdrIn wr p s) (g:wr.grownBy w1 row) (hp:p<base) (hr:∀ k,row=some k→base≤k):RdrIn w1 p s :=
 h.belowP ⟨g.os,g.tape,g.output,g.size,fun k hk=>by
  have hl:=h.lt
  exact g.block k (by omega) (fun e=>by have:=hr k e.symm;omega)⟩
/-- One run more, behind the k-th. -/
def stepS (x:List Int × Rs) (k:Nat):List Int × Rs :=
 (x.1 ++ [(runS (needR (numR x.2).2 (decide (2≤(numR x.2).1)) 2) (wrap64 (x.1.getD (2 * k) 0 - (numR x.2).1))).1,wrap64 (x.1.getD (2 * k) 0 - (numR x.2).1)],
  (runS (needR (numR x.2).2 (decide (2≤(numR x.2).1)) 2) (wrap64 (x.1.getD (2 * k) 0 - (numR x.2).1))).2)
def runsS (x:List Int × Rs):Nat→List Int × Rs
 | 0=>x
 | k+1=>stepS (runsS x k) k
theorem runsS_len (x:List Int × Rs) (k:Nat):(runsS x k).1.length=x.1.length+2 * k:=by
 induction k with
 | zero=>rfl
 | succ k ih=>show ((runsS x k).1 ++ [_,_]).length=_;rw [List.length_append,ih];simp;omega
def okS (c:Int):Bool:=decide (1≤c) && decide (c≤8)
def spansR (s:Rs):List Int × Rs :=
 if (needR (numR s).2 (okS (numR s).1) 2).e=0
 then runsS ([(runS (numR (numR s).2).2 (numR (numR s).2).1).1,(numR (numR s).2).1],(runS (numR (numR s).2).2 (numR (numR s).2).1).2) ((numR s).1.toNat - 1)
 else ([],needR (numR s).2 (okS (numR s).1) 2)
def SpansP (d:List Int) (s':Rs) (p:Nat) (w:World) (e:Ending) (w':World):Prop :=
 ∃ A n c,e=.returned (.slice A n c)∧n≤8∧d.length=2 * n∧w'.ownsRow w.heap.size 67 2 (.slice A n c) n (ints d)∧RdrIn w' p s'∧w.grownBy w' (some p)
def SpLoop (w:World) (p:Nat) (x0:List Int × Rs) (k:Nat) (v:Value) (wr:World):Prop :=
 wr.ownsRow w.heap.size 67 2 v (k+1) (ints (runsS x0 k).1)∧RdrIn wr p (runsS x0 k).2∧w.grownBy wr (some p)
def lenV:Value→Nat
 | .slice _ n _=>n
 | _=>0
theorem spans_any (s:Rs) (p:Nat) (w:World) (h:RdrIn w p s) :
  Calls Tryd.prog 77 #[.pointer (some ⟨p,0,none⟩)] w (SpansP (spansR s).1 (spansR s).2 p w):=by
 have HNU:=number_any s p w h
 have hpw:=h.lt
 unfold spansR
 obtain ⟨c,hc⟩:∃ x,(numR s).1=x:=⟨_,rfl⟩
 obtain ⟨s1,h1⟩:∃ x,(numR s).2=x:=⟨_,rfl⟩
 rw [hc,h1] at HNU ⊢
 have HNU:=Lib.hid HNU
 have HN1:=fun W h=>need_any s1 p (okS c) 2 W h
 have hz1:(needR s1 (okS c) 2).e=0→needR s1 (okS c) 2=s1∧okS c=true:=fun h=>⟨(needR_zero (by decide) h).1,(needR_zero (by decide) h).2.1⟩
 by_cases he:(needR s1 (okS c) 2).e=0
 ·obtain ⟨e1,e2⟩:=hz1 he
  rw [if_pos he]
  rw [e1] at he HN1
  rw [e2] at HN1
  have hcb:1≤c∧c≤8:=by unfold okS at e2;simpa using e2
  obtain ⟨hc1,hc8⟩:=hcb
  have hbool:(s1.e == 0)=true:=by simpa using he
  rw [hbool] at HN1
  have HN1:=Lib.hid HN1
  have HNU2:=fun W h=>number_any s1 p W h
  obtain ⟨l0,hl0⟩:∃ x,(numR s1).1=x:=⟨_,rfl⟩
  obtain ⟨s2,h2⟩:∃ x,(numR s1).2=x:=⟨_,rfl⟩
  rw [hl0,h2] at HNU2 ⊢
  have HNU2:=Lib.hid HNU2
  have HRU:=fun W h=>run_any s2 l0 p W h
  obtain ⟨lo,hlo⟩:∃ x,(runS s2 l0).1=x:=⟨_,rfl⟩
  obtain ⟨s3,h3⟩:∃ x,(runS s2 l0).2=x:=⟨_,rfl⟩
  rw [hlo,h3] at HRU ⊢
  have HRU:=Lib.hid HRU
  obtain ⟨K,hK⟩:∃ K:Nat,Hid (c=((K+1:Nat):Int)):=⟨c.toNat - 1,by show _=_;omega⟩
  have hKo:=hK.out
  have hK7:K≤7:=by omega
  have hcK:c.toNat - 1=K:=by omega
  rw [hcK]
  clear hKo
  obtain ⟨x0,hx0⟩:∃ x0:List Int × Rs,Hid (([lo,l0],s3)=x0):=⟨_,Lib.hid rfl⟩
  rw [hx0.out]
  obtain ⟨i0,hi,hz0,hz1',hz2⟩:=info_parts infoI2
  have HI:=Lib.hid (And.intro hi (And.intro hz0 (And.intro hz1' hz2)))
  clear hc h1 hl0 h2 hlo h3 h e1 e2 hz1 he hbool hi hz0 hz1' hz2 hcK
  go_enter Tryd.func77,Tryd.ntmps77
  go_wp2_with fail
  refine HNU.out.mono ?_
  rintro e w1 ⟨rfl,hr,hg⟩
  have HR1:=Lib.hid hr
  have HG1:=Lib.hid hg
  clear hr hg
  go_wp2_with fail
  refine (HN1.out _ HR1.out).mono ?_
  rintro e w2 ⟨rfl,hr,hg⟩
  have HR2:=Lib.hid hr
  have HG2:=Lib.hid (grown_trans HG1.out hg)
  clear hr hg
  go_wp2_with fail
  refine (HNU2.out _ HR2.out).mono ?_
  rintro e w3 ⟨rfl,hr,hg⟩
  have HR3:=Lib.hid hr
  have HG3:=Lib.hid (grown_trans HG2.out hg)
  clear hr hg
  go_wp2_with fail
  refine (HRU.out _ HR3.out).mono ?_
  rintro e w4 ⟨rfl,hr,hg⟩
  have HR4:=Lib.hid hr
  have HG4:=Lib.hid (grown_trans HG3.out hg)
  clear hr hg
  have HS0:Hid (SpLoop w p x0 0 (.slice (some ⟨w4.heap.size,0,none⟩) 1 1) (w4.alloc (.cells #[.int .i64 lo,.int .i64 l0] 67))):=by
   refine ⟨?_,?_,?_⟩
   ·show World.ownsRow _ _ _ _ _ _ (ints x0.1)
    rw [← hx0.out]
    exact own_new w4 #[.int .i64 lo,.int .i64 l0] _ 2 1 _ _ rfl rfl (by unfold maxLen;omega) HG4.out.size
   ·show RdrIn _ p x0.2
    rw [← hx0.out]
    exact HR4.out.allocs
   ·exact grown_trans HG4.out (grown_alloc _)
  have hKo:=hK.out
  subst hKo
  go_wp2_with fail
  have hx2:Hid (x0.1.length=2):=by show _=_;rw [← hx0.out];rfl
  clear HR1 HG1 HR2 HG2 HR3 HG3 HR4 HNU2 HRU HN1 HG4
  go_loopw [4] (fun v wr=>∃ k:Nat,k≤K∧(∃ A' c',v=.slice A' (k+1) c')∧Hid (SpLoop w p x0 k v wr)) (fun v _=>K+1 - lenV v)
  case atStart=>exact ⟨0,by omega,⟨_,_,rfl⟩,HS0⟩
  case round =>
   obtain ⟨k,hk,⟨A',c',rfl⟩,HL⟩:=hrel
   by_cases hlt:k<K
   ·have hlti:(k:Int)<(K:Int):=by omega
    have HE:=Lib.hid (runsS_len x0 k)
    have hstep:runsS x0 (k+1)=stepS (runsS x0 k) k:=rfl
    obtain ⟨ho,hr,hg⟩:=HL.out
    obtain ⟨es,s4,hxk⟩:∃ es s4,runsS x0 k=(es,s4):=⟨_,_,rfl⟩
    rw [hxk] at ho hr hstep HE
    unfold stepS at hstep
    simp only at ho hr hstep
    have hel:es.length=2 * (k+1):=by have:=HE.out;have:=hx2.out;simp only at *;omega
    have HNA:=number_any s4 p wr hr
    obtain ⟨g,hgd⟩:∃ x,(numR s4).1=x:=⟨_,rfl⟩
    obtain ⟨s5,h5⟩:∃ x,(numR s4).2=x:=⟨_,rfl⟩
    rw [hgd,h5] at HNA hstep
    have HNA:=Lib.hid HNA
    have HNB:=fun W h=>need_any s5 p (decide (2≤g)) 2 W h
    obtain ⟨s6,h6⟩:∃ x,needR s5 (decide (2≤g)) 2=x:=⟨_,rfl⟩
    rw [h6] at HNB hstep
    have HNB:=Lib.hid HNB
    obtain ⟨pv,hpv⟩:∃ x,Hid (es.getD (2 * k) 0=x):=⟨_,rfl⟩
    rw [hpv.out] at hstep
    obtain ⟨la,hla⟩:∃ x,Hid (wrap64 (pv - g)=x):=⟨_,rfl⟩
    rw [hla.out] at hstep
    have HNC:=fun W h=>run_any s6 la p W h
    obtain ⟨lo1,h7⟩:∃ x,(runS s6 la).1=x:=⟨_,rfl⟩
    obtain ⟨s7,h8⟩:∃ x,(runS s6 la).2=x:=⟨_,rfl⟩
    rw [h7,h8] at HNC hstep
    have HNC:=Lib.hid HNC
    have HSTEP:=Lib.hid hstep
    have HO:=Lib.hid ho
    have HG:=Lib.hid hg
    have HEL:=Lib.hid hel
    clear hgd h5 h6 h7 h8 ho hr hg hxk hstep HE hel HL HS0
    go_wp2_with fail
    refine HNA.out.mono ?_
    rintro e w5 ⟨rfl,hr,hg⟩
    have HR5:=Lib.hid hr
    have HG5:=Lib.hid (grown_trans HG.out hg)
    have HO5:=Lib.hid (own_grown HO.out hg hpw)
    clear hr hg
    go_wp2_with fail
    refine (HNB.out _ HR5.out).mono ?_
    rintro e w6 ⟨rfl,hr,hg⟩
    have HR6:=Lib.hid hr
    have HG6:=Lib.hid (grown_trans HG5.out hg)
    have HO6:=Lib.hid (own_grown HO5.out hg hpw)
    clear hr hg
    obtain ⟨_,_,e0,hnc,_,_,hrd⟩:=own_form HO6.out
    simp only [Value.slice.injEq] at e0
    obtain ⟨rfl,_,rfl⟩:=e0
    obtain ⟨bb,off,hA,hbb,hcs⟩:=hrd.2 (by omega)
    subst hA
    have hcx:w6.cell? ⟨bb,off+k * 2,none⟩=some (.int .i64 pv):=by
     rw [show off+k * 2=off+2 * k by omega,hcs (2 * k) _ (ints_get es _ (by have:=HEL.out;omega)),hpv.out]
    clear hcs hrd
    go_wp2_with fail
    rw [hla.out]
    refine (HNC.out _ HR6.out).mono ?_
    rintro e w7 ⟨rfl,hr,hg⟩
    have HR7:=Lib.hid hr
    have HG7:=Lib.hid (grown_trans HG6.out hg)
    have HO7:=Lib.hid (own_grown HO6.out hg hpw)
    clear hr hg hcx
    have hb2:Hid (w.heap.size≤(w7.alloc (.cells #[.int .i64 lo1,.int .i64 la] 67)).heap.size):=by have:=HG7.out.size;show _≤_;simp only [World.size_alloc];omega
    go_wp2_with (at_builtin;refine wpList_app _ rfl (.tmp 32) (.tmp 44) 42 rfl w.heap.size 67 i0 (.agg #[.int .i64 0,.int .i64 0]) 2 16 Tryd.underlying42 HI.out.1 HI.out.2.1 HI.out.2.2.1 HI.out.2.2.2 rfl (by decide) (.slice (some ⟨bb,off,none⟩) (k+1) c') (k+1) (ints es) rfl (HO7.out.alloc _) (w7.heap.size+1) (some ⟨w7.heap.size,0,none⟩) 1 1 (ints [lo1,la]) rfl (rd_new _ _ _ _ _ _ _ rfl (by omega) rfl rfl) (ones_ints _) (by unfold maxLen;omega) (by omega) hb2.out ?_)
    intro v1 w8 hown1 hgrow1
    obtain ⟨A1,c1,e1,_⟩:=own_form hown1
    subst e1
    rw [← ints_app] at hown1
    have hrow:∀ j,(Value.slice (some ⟨bb,off,none⟩) (k+1) c').ownBlock=some j→w.heap.size≤j:=fun j hj=>(HO7.out.lt j hj).1
    have HN:Hid (SpLoop w p x0 (k+1) (.slice A1 (k+1+1) c1) w8):=by
     unfold SpLoop
     rw [HSTEP.out]
     exact ⟨hown1,HR7.out.allocs.row hgrow1 hpw hrow,grown_row (grown_trans HG7.out (grown_alloc _)) hgrow1 (Nat.le_refl _) hrow⟩
    clear hown1 hgrow1 hrow
    go_wp2_with fail
    go_roundw
    case rel=>exact ⟨k+1,by omega,⟨_,_,rfl⟩,HN⟩
    case measure=>simp [lenV];omega
   ·obtain rfl:k=K:=by omega
    have HE:Hid (SpansP (runsS x0 k).1 (runsS x0 k).2 p w (.returned (.slice A' (k+1) c')) wr) :=
     ⟨A',k+1,c',rfl,by omega,by have:=runsS_len x0 k;have:=hx2.out;omega,HL.out.1,HL.out.2.1,HL.out.2.2⟩
    clear HL HS0
    go_wp2_with fail
    go_ret
    exact HE.out
 ·rw [if_neg he]
  have hbool:((needR s1 (okS c) 2).e == 0)=false:=by simpa using he
  rw [hbool] at HN1
  obtain ⟨s2,h2⟩:∃ x,needR s1 (okS c) 2=x:=⟨_,rfl⟩
  rw [h2] at HN1 ⊢
  simp only
  have HFIN:Hid (∀ w',RdrIn w' p s2→w.grownBy w' (some p)→SpansP [] s2 p w (.returned (.slice none 0 0)) w'):=fun w' hr hg=>⟨none,0,0,rfl,by omega,rfl,own_nil _ _ _ _,hr,hg⟩
  by_cases ho:okS c=true
  ·rw [ho] at HN1
   have HN1:=Lib.hid HN1
   have hcb:1≤c∧c≤8:=by unfold okS at ho;simpa using ho
   obtain ⟨hc1,hc8⟩:=hcb
   clear hz1 he hbool h2 ho hc h1
   go_enter Tryd.func77,Tryd.ntmps77
   go_wp2_with fail
   refine HNU.out.mono ?_
   rintro e w1 ⟨rfl,hr,hg⟩
   have HR1:=Lib.hid hr
   have HG1:=Lib.hid hg
   clear hr hg
   go_wp2_with fail
   refine (HN1.out _ HR1.out).mono ?_
   rintro e w2 ⟨rfl,hr,hg⟩
   have HE:=Lib.hid (HFIN.out w2 hr (grown_trans HG1.out hg))
   clear hr hg
   go_wp2_with fail
   go_ret
   exact HE.out
  ·rw [Bool.not_eq_true] at ho
   rw [ho] at HN1
   have HN1:=Lib.hid HN1
   by_cases hc1:1≤c
   ·have hc8:¬ c≤8:=fun h8=>by unfold okS at ho;simp at ho;omega
    have hd8:decide (c≤8)=false:=decide_eq_false hc8
    have hd1:decide (1≤c)=true:=decide_eq_true hc1
    clear hc8 hz1 he hbool h2 ho hc h1
    go_enter Tryd.func77,Tryd.ntmps77
    go_wp2_with fail
    refine HNU.out.mono ?_
    rintro e w1 ⟨rfl,hr,hg⟩
    have HR1:=Lib.hid hr
    have HG1:=Lib.hid hg
    clear hr hg
    go_wp2_with fail
    refine (HN1.out _ HR1.out).mono ?_
    rintro e w2 ⟨rfl,hr,hg⟩
    have HE:=Lib.hid (HFIN.out w2 hr (grown_trans HG1.out hg))
    clear hr hg
    go_wp2_with fail
    go_ret
    exact HE.out
   ·have hd1:decide (1≤c)=false:=decide_eq_false hc1
    clear hc1 hz1 he hbool h2 ho hc h1
    go_enter Tryd.func77,Tryd.ntmps77
    go_wp2_with fail
    refine HNU.out.mono ?_
    rintro e w1 ⟨rfl,hr,hg⟩
    have HR1:=Lib.hid hr
    have HG1:=Lib.hid hg
    clear hr hg
    go_wp2_with fail
    refine (HN1.out _ HR1.out).mono ?_
    rintro e w2 ⟨rfl,hr,hg⟩
    have HE:=Lib.hid (HFIN.out w2 hr (grown_trans HG1.out hg))
    clear hr hg
    go_wp2_with fail
    go_ret
    exact HE.out
end Go.Proofs.YtccljifichaieaaDoor
