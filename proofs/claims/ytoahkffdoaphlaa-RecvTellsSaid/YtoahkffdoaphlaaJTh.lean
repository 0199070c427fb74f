/- Joined texts. Conditions: as each theorem lists them. -/
import Derived.Test.YtoahkffdoaphlaaJTa
import Derived.StillTailTactics
set_option linter.unusedSimpArgs false
set_option linter.unusedVariables false
set_option maxRecDepth 100000
set_option maxHeartbeats 80000000
namespace Go.Proofs.Ytoahkffdoaphlaa.Sp.Ref
open Go Go.RowKit
theorem still_tail {P:Program} {id:Nat} {Q:Exit→Act→World→Prop} {a:Act} {w:World} {l:List Oper} (n:Nat) (hm:P.follows .mixedOrders=true) (hB:Region.lexTailB .any l.toArray n=true)
  (h:∀ w':World,w'=w.drew→wpStill P l.toArray w' (fun a'=>wpList P l.toArray Q (l.drop n) a' w') (l.take n) a):(Code.region id l.toArray true).wp P Q a w :=
 wp_region_still_tail n hm hB (h _ rfl)
/-- What is left of a run, behind k of the set's runs. -/
def gapI (es:List Int) (f t:Int):Nat→List Int
 | 0=>turn [] f t true
 | k+1=>turn (gapI es f t k) (es.getD (2 * k) 0) (es.getD (2 * k+1) 0) false
theorem gapI_ok (es:List Int) (f t:Int):∀ k,Ok (gapI es f t k)
 | 0=>ok_turn _ _ _ _ ok_nil
 | k+1=>ok_turn _ _ _ _ (gapI_ok es f t k)
theorem turn_len (es:List Int) (f t:Int) (b:Bool):(turn es f t b).length≤es.length+2:=by
 unfold turn
 split
 ·omega
 ·rename_i hc
  have h1:lo es (clamp f)≤up es (clamp t):=by
   unfold lo up
   exact List.countP_mono_left fun x _ hx=>by simp at hx ⊢;omega
  have h2:=up_le_len es (clamp t)
  unfold turnF
  simp only [List.length_append,List.length_take,List.length_drop]
  split <;> split <;> simp <;> omega
theorem gapI_len (es:List Int) (f t:Int):∀ k,(gapI es f t k).length≤2+2 * k
 | 0=>by have:=turn_len [] f t true;simp at this;exact this
 | k+1=>by have:=turn_len (gapI es f t k) (es.getD (2 * k) 0) (es.getD (2 * k+1) 0) false;have:=gapI_len es f t k;show (turn _ _ _ _).length≤_;omega
theorem gapI_mem {es:List Int} (h:Ok es) (f t:Int) (n:Int):∀ k,2 * k≤es.length→mem (gapI es f t k) n=(decide (clamp f≤n∧n<clamp t) && !mem (es.take (2 * k)) n)
 | 0,_=>by
   show mem (turn [] f t true) n=_
   rw [mem_turn _ _ _ _ ok_nil,show mem (es.take (2 * 0)) n=false by rfl,show mem [] n=false from rfl]
   by_cases c:clamp f≤n∧n<clamp t
   ·rw [if_pos c,decide_eq_true c];rfl
   ·rw [if_neg c,decide_eq_false c];rfl
 | k+1,hk=>by
   show mem (turn (gapI es f t k) _ _ false) n=_
   rw [mem_turn _ _ _ _ (gapI_ok es f t k),gapI_mem h f t n k (by omega)]
   have hx:=get_in h (2 * k) (by omega)
   have hy:=get_in h (2 * k+1) (by omega)
   have c1:clamp (es.getD (2 * k) 0)=es.getD (2 * k) 0:=by unfold clamp;omega
   have c2:clamp (es.getD (2 * k+1) 0)=es.getD (2 * k+1) 0:=by unfold clamp;omega
   rw [c1,c2]
   have ht:mem (es.take (2 * (k+1))) n=(mem (es.take (2 * k)) n || inRun n (es.getD (2 * k) 0,es.getD (2 * k+1) 0)):=by
    have hp:(es.take (2 * (k+1))).Pairwise (· < ·):=h.1.sublist (List.take_sublist _ _)
    rw [take_pair es k (by omega)] at hp ⊢
    exact mem_snoc _ _ _ n hp (by rw [List.length_take];omega)
   rw [ht]
   by_cases c:es.getD (2 * k) 0≤n∧n<es.getD (2 * k+1) 0
   ·rw [if_pos c,show inRun n (es.getD (2 * k) 0,es.getD (2 * k+1) 0)=true by rw [run_dec];exact decide_eq_true c];simp
   ·rw [if_neg c,show inRun n (es.getD (2 * k) 0,es.getD (2 * k+1) 0)=false by rw [run_dec];exact decide_eq_false c,Bool.or_false]
theorem gapI_eq {es:List Int} (h:Ok es) (f t:Int) (m:Nat) (hm:es.length=m * 2):gapI es f t m=gapsF es f t:=by
 refine ok_eq (gapI_ok es f t m) (ok_gaps h f t) fun n=>?_
 rw [gapI_mem h f t n m (by omega),mem_gaps h,List.take_of_length_le (by omega)]
theorem clamp_clamp (n:Int):clamp (clamp n)=clamp n:=by unfold clamp;omega
theorem gapI_clamp (es:List Int) (f t:Int):∀ k,gapI es (clamp f) (clamp t) k=gapI es f t k
 | 0=>by show turn [] _ _ true=turn [] f t true;unfold turn;rw [clamp_clamp,clamp_clamp]
 | k+1=>by show turn _ _ _ _=turn _ _ _ _;rw [gapI_clamp es f t k]
theorem all_gaps {es:List Int} (h:Ok es) (f t:Int):allF es f t=decide ((gapsF es f t).length / 2=0):=by
 have hg:=ok_gaps h f t
 have hm:=fun n=>mem_gaps h f t n
 cases ha:allF es f t with
 | true =>
   have h1:=(all_iff h f t).1 ha
   have:gapsF es f t=[]:=ok_eq hg ok_nil fun n=>by
    rw [hm n,show mem [] n=false from rfl]
    by_cases c:clamp f≤n∧n<clamp t
    ·rw [h1 n c.1 c.2];simp
    ·rw [decide_eq_false c];rfl
   rw [this];rfl
 | false =>
   refine (decide_eq_false fun h0=>?_).symm
   have h2:gapsF es f t=[]:=List.eq_nil_of_length_eq_zero (by have:=hg.2.1;omega)
   have h3:allF es f t=true:=(all_iff h f t).2 fun n a b=>by
    have:=hm n
    rw [h2,show mem [] n=false from rfl,decide_eq_true ⟨a,b⟩] at this
    simpa using this.symm
   rw [h3] at ha;cases ha
theorem rnew_put (w:World):RefIn (w.alloc (.cells #[.slice none 0 0] 50)) w.heap.size 0 50 #[.slice none 0 0] [] :=
 ⟨ok_nil,none,0,0,rfl,⟨heap_alloc_new w _,rfl⟩,Nat.le_refl _,Rd.nil _ _ _,fun a ha=>by cases ha⟩
theorem rgaps_any (es:List Int) (p o:Nat) (Tt:TypeId) (cur:Array Value) (f0 t0:Int) (w:World) (h:RefIn w p o Tt cur es) (hm:(es.length+4) * 32≤140737488355328) :
  Calls Try.prog 60 #[.pointer (some ⟨p,o,none⟩),.int .i64 f0,.int .i64 t0] w fun e w'=>∃ A n c,e=.returned (.slice A n c)∧(gapsF es f0 t0).length=n * 2∧n≤c∧Rd w' w'.heap.size A (n * 2) (ints (gapsF es f0 t0))∧Below w.heap.size w w':=by
 have W1:=Lib.hid (fun W=>rwithin_any f0 W)
 have W2:=Lib.hid (fun W=>rwithin_any t0 W)
 obtain ⟨f,hf⟩:∃ x,Hid (clamp f0=x):=⟨_,rfl⟩
 obtain ⟨t,ht⟩:∃ x,Hid (clamp t0=x):=⟨_,rfl⟩
 rw [hf.out] at W1
 rw [ht.out] at W2
 have hpz:=h.lt
 have HH:=Lib.hid h
 obtain ⟨hok,A,n,c,hn0,⟨hhp,hcur⟩,hnc,hrd,haw⟩:=h
 have HCU:=Lib.hid hcur
 have HOk:=Lib.hid hok
 have hn:=Lib.hid hn0
 have HR:=Lib.hid hrd
 have HHP:=Lib.hid hhp
 have HGE:Hid (gapI es f t n=gapsF es f0 t0):=by
  rw [← hf.out,← ht.out]
  show _=_
  rw [gapI_clamp,gapI_eq hok f0 t0 n hn0]
 have hnb:(n:Int)≤2199023255552:=by omega
 have hncI:(n:Int)≤(c:Int):=by omega
 clear hhp hcur hrd hn0 hok haw
 go_enter Try.func60,Try.ntmps60
 go_wp2_with fail
 refine (W1.out _).mono ?_;rintro e w' ⟨rfl,rfl⟩
 go_wp2_with fail
 refine (W2.out _).mono ?_;rintro e w' ⟨rfl,rfl⟩
 go_wp2_with fail
 obtain ⟨g,hg⟩:∃ g,Hid (w.heap.size=g):=⟨_,rfl⟩
 obtain ⟨w1,hw1⟩:∃ w1,Hid (w.alloc (.cells #[.slice none 0 0] 50)=w1):=⟨_,rfl⟩
 have HN1:Hid (RefIn w1 g 0 50 #[.slice none 0 0] []∧Below w.heap.size w w1):=by
  rw [← hw1.out,← hg.out]
  exact ⟨rnew_put w,(Below.refl _ _).alloc (Nat.le_refl _) _⟩
 rw [hw1.out,hg.out]
 refine (radd_any [] g 0 50 #[.slice none 0 0] f t w1 HN1.out.1 (by decide)).mono ?_
 rintro e w2 ⟨rfl,⟨v1,h1⟩,h2⟩
 have HST:Hid ((∃ cu,RefIn w2 g 0 50 cu (gapI es f t 0))∧Below w.heap.size w w2):=⟨⟨_,h1⟩,HN1.out.2.grown h2 HN1.out.2.size (fun k hk=>by simp at hk;have:=hg.out;omega)⟩
 clear h1 h2
 go_wp2_with fail
 go_loopw [8] (fun i wr=>∃ k:Nat,k≤n∧i=.int .i64 k∧Hid ((∃ cu,RefIn wr g 0 50 cu (gapI es f t k))∧Below w.heap.size w wr)) (fun i _=>n - (intOf i).toNat)
 case atStart=>exact ⟨0,Nat.zero_le _,rfl,HST⟩
 case round =>
  clear HST
  obtain ⟨k,hk,rfl,HK⟩:=hrel
  have hcellr:wr.cell? ⟨p,o,none⟩=some (.slice A n c):=by rw [HK.out.2.cell (p:=⟨p,o,none⟩) hpz];exact cell_slot HHP.out HCU.out
  by_cases hlt:k<n
  ·have hlti:(k:Int)<(n:Int):=by omega
   obtain ⟨b,off,hA,hbn,hcs⟩:=HR.out.2 (by omega)
   subst hA
   have hl1:2 * k+1<es.length:=by have:=hn.out;omega
   have HGL:=Lib.hid (gapI_len es f t k)
   obtain ⟨x,hx⟩:∃ x,Hid (es.getD (2 * k) 0=x):=⟨_,rfl⟩
   obtain ⟨y,hy⟩:∃ y,Hid (es.getD (2 * k+1) 0=y):=⟨_,rfl⟩
   have hcx:wr.cell? ⟨b,off+k * 2,none⟩=some (.int .i64 x):=by
    rw [HK.out.2.cell (p:=⟨b,off+k * 2,none⟩) hbn,show off+k * 2=off+2 * k by omega,hcs (2 * k) _ (ints_get es _ (by omega)),hx.out]
   have hcy:wr.cell? ⟨b,off+k * 2+1,none⟩=some (.int .i64 y):=by
    rw [HK.out.2.cell (p:=⟨b,off+k * 2+1,none⟩) hbn,show off+k * 2+1=off+(2 * k+1) by omega,hcs (2 * k+1) _ (ints_get es _ (by omega)),hy.out]
   have HGS:Hid (gapI es f t (k+1)=turn (gapI es f t k) x y false):=by show _=_;rw [← hx.out,← hy.out];rfl
   clear hcs
   go_wp2_with fail
   refine still_tail 17 (by kernel_rfl) (by kernel_rfl) ?_
   intro wz hwz
   have z0:wz.cell? ⟨p,o,none⟩=some (.slice (some ⟨b,off,none⟩) n c):=by rw [hwz];exact hcellr
   have zx:wz.cell? ⟨b,off+k * 2,none⟩=some (.int .i64 x):=by rw [hwz];exact hcx
   have zy:wz.cell? ⟨b,off+k * 2+1,none⟩=some (.int .i64 y):=by rw [hwz];exact hcy
   obtain ⟨cu,HKc⟩:=HK.out.1
   have HZ:Hid (RefIn wz g 0 50 cu (gapI es f t k)∧Below w.heap.size w wz):=by rw [hwz];exact ⟨HKc.below ((Below.refl _ _).drew),HK.out.2.drew⟩
   clear hwz hcx hcy hcellr HK HKc
   simp only [List.take_succ_cons,List.take_zero,List.drop_succ_cons,List.drop_zero]
   iterate 17 still_step
   refine wpStill_nil ?_
   go_wp2_with fail
   refine (rdrop_any _ g 0 50 cu x y wz HZ.out.1 (by have:=HGL.out;have:=hn.out;omega)).mono ?_
   rintro e w3 ⟨rfl,⟨v3,h1⟩,h2⟩
   have HN:Hid ((∃ cu,RefIn w3 g 0 50 cu (gapI es f t (k+1)))∧Below w.heap.size w w3):=by
    rw [HGS.out]
    exact ⟨⟨_,h1⟩,HZ.out.2.grown h2 HZ.out.2.size (fun k hk=>by simp at hk;have:=hg.out;omega)⟩
   clear h1 h2 z0 zx zy
   go_wp2_with fail
   go_roundw
   case rel=>exact ⟨k+1,by omega,by go_num,HN⟩
   case measure=>simp [intOf];omega
  ·have hlti:¬ (k:Int)<(n:Int):=by omega
   obtain rfl:k=n:=by omega
   obtain ⟨cu,_,A',n',c',h0',⟨h2',h2c⟩,h3',h4',_⟩:=HK.out.1
   have hcg:wr.cell? ⟨g,0,none⟩=some (.slice A' n' c'):=cell_slot h2' h2c
   rw [HGE.out] at h0' h4'
   have HF:=Lib.hid (And.intro h0' (And.intro h3' h4'))
   clear h0' h2' h2c h3' h4'
   go_wp2_with fail
   go_ret
   exact ⟨A',n',c',rfl,HF.out.1,HF.out.2.1,HF.out.2.2,HK.out.2⟩
theorem rall_any (es:List Int) (p o:Nat) (Tt:TypeId) (cur:Array Value) (f0 t0:Int) (w:World) (h:RefIn w p o Tt cur es) (hm:(es.length+4) * 32≤140737488355328) :
  Calls Try.prog 76 #[.pointer (some ⟨p,o,none⟩),.int .i64 f0,.int .i64 t0] w fun e w'=>e=.returned (.bool (allF es f0 t0))∧Below w.heap.size w w':=by
 have HA:=Lib.hid (all_gaps h.1 f0 t0)
 have H:=Lib.hid (rgaps_any es p o Tt cur f0 t0 w h hm)
 obtain ⟨b,hb⟩:∃ b,Hid (allF es f0 t0=b):=⟨_,rfl⟩
 rw [hb.out] at HA ⊢
 clear h
 go_enter Try.func76,Try.ntmps76
 go_wp2_with fail
 refine H.out.mono ?_
 rintro e w1 ⟨A,n,c,rfl,hl,hnc,_,hbw⟩
 have HB:=Lib.hid hbw
 have HN:Hid (b=decide (n=0)):=by rw [HA.out,hl];show _=_;congr 1;simp
 clear hl hbw
 by_cases hn:n=0
 ·subst hn
  have hb1:b=true:=by rw [HN.out];rfl
  subst hb1
  go_wp2_with fail
  go_ret
  exact ⟨rfl,HB.out⟩
 ·have hb1:b=false:=by rw [HN.out];exact decide_eq_false hn
  subst hb1
  have h0:((n:Int) == 0)=false:=by simp;omega
  go_wp2_with fail
  go_ret
  exact ⟨rfl,HB.out⟩
end Go.Proofs.Ytoahkffdoaphlaa.Sp.Ref
