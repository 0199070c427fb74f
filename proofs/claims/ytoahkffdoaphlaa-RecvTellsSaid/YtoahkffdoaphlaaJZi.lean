/- Joined texts. Conditions: as each theorem lists them. -/
import Derived.Test.YtoahkffdoaphlaaJZh
import Derived.Test.YtoahkffdoaphlaaJSd
set_option linter.unusedSimpArgs false
set_option linter.unusedVariables false
set_option maxRecDepth 100000
set_option maxHeartbeats 80000000
namespace Go.Proofs.Ytoahkffdoaphlaa.Re
open Go Go.RowKit Go.Proofs.Ytoahkffdoaphlaa Go.Proofs.Ytoahkffdoaphlaa.Sp Go.Proofs.Ytoahkffdoaphlaa.Se Go.Maps
structure HR (W w:World) (p n:Nat) (F:List Nat) (s:Rs):Prop where
 st:∃ v0 v4,RcIn w p F v0 v4 n s
 lo:∀ k ∈ F,W.heap.size≤k
 low:Below W.heap.size W w
/-- A row of bytes that the stream leaves as it is. -/
def RowO (w:World) (F:List Nat) (A:Option Addr) (bs:List Nat):Prop:=Rd w w.heap.size A bs.length (bv bs)∧(0<bs.length→∀ a,A=some a→a.block ∉ F)
/-- What a call leaves of both. -/
def Goes (w w':World) (F F':List Nat):Prop:=Kept F w w'∧∀ k ∈ F',k ∈ F∨w.heap.size≤k
section
variable {W w w':World} {p n:Nat} {F F':List Nat} {s s':Rs} {A:Option Addr} {bs:List Nat}
theorem HR.to {n':Nat} (h:HR W w p n F s) (ht:RcTo w w' p F n' s'):∃ F',HR W w' p n' F' s'∧Goes w w' F F':=by
 obtain ⟨F',a,b,h1,h2,h3⟩:=ht
 exact ⟨F',⟨⟨a,b,h1⟩,fun k hk=>(h3 k hk).elim (h.lo k) (fun hh=>Nat.le_trans h.low.size hh),h.low.trans (h2.below h.low.size h.lo)⟩,h2,h3⟩
theorem HR.below (h:HR W w p n F s) (hb:Below w.heap.size w w'):HR W w' p n F s:=by
 obtain ⟨⟨a,b,h1⟩,h2,h3⟩:=h
 exact ⟨⟨a,b,h1.below hb⟩,h2,h3.trans (hb.mono h3.size)⟩
theorem HR.mono {n':Nat} (h:HR W w p n F s) (hn:n≤n'):HR W w p n' F s:=by
 obtain ⟨⟨a,b,h1⟩,h2,h3⟩:=h
 exact ⟨⟨a,b,h1.mono hn⟩,h2,h3⟩
theorem HR.lt (h:HR W w p n F s):∀ k ∈ F,k<w.heap.size:=by
 obtain ⟨⟨a,b,h1⟩,_⟩:=h
 exact h1.hF
theorem Goes.below (F:List Nat) (hb:Below w.heap.size w w'):Goes w w' F F:=⟨Kept.ofBelow F hb,fun _ hk=>.inl hk⟩
theorem RowO.go (h:RowO w F A bs) (hg:Goes w w' F F'):RowO w' F' A bs:=by
 refine ⟨rd_kept h.1 hg.1 h.2,fun h0 a ea hm=>?_⟩
 rcases hg.2 _ hm with h1 | h1
 ·exact h.2 h0 a ea h1
 ·obtain ⟨b,off,e,hb,_⟩:=h.1.2 h0
  rw [ea] at e
  cases e
  exact absurd hb (by have:w.heap.size≤b:=h1;omega)
theorem RowO.sub (h:RowO w F A bs) (c i m:Nat) (hi:i+m≤bs.length) (hc:bs.length≤c):RowO w F (tailA A c i) ((bs.drop i).take m):=by
 have hl:((bs.drop i).take m).length=m:=by rw [List.length_take,List.length_drop];omega
 refine ⟨?_,fun h0 z hz=>?_⟩
 ·rw [hl,bv_tk,bv_dp]
  exact (h.1.tail c i (by omega) hc).head m (by omega)
 ·rw [hl] at h0
  unfold tailA at hz
  split at hz
  ·exact h.2 (by omega) z hz
  ·cases hA:A with
   | none=>rw [hA] at hz;cases hz
   | some q =>
     rw [hA] at hz
     simp only [Option.map_some,Option.some.injEq] at hz
     have h1:=h.2 (by omega) q hA
     have e:z.block=q.block:=by
      rw [← hz]
      unfold Addr.add
      split <;> rfl
     rw [e]
     exact h1
theorem RowO.nil (w:World) (F:List Nat) (A:Option Addr):RowO w F A []:=⟨Rd.nil _ _ _,fun h=>absurd h (Nat.lt_irrefl 0)⟩
/-- A row that was just laid. -/
theorem RowO.new (h:HR W w p n F s) (cur:Array Value) (t:TypeId) (hc:cur.toList=bv bs):RowO (w.alloc (.cells cur t)) F (some ⟨w.heap.size,0,none⟩) bs:=by
 refine ⟨rd_new _ _ _ _ _ _ _ rfl (by simp) (by have:=congrArg List.length hc;simpa [bv] using this) hc,fun _ a ea hm=>?_⟩
 cases ea
 exact Nat.lt_irrefl _ (h.lt _ hm)
theorem RowO.own {base c:Nat} (h:HR W w p n F s) (hb:Below w.heap.size w w') (ho:w'.ownsRow w.heap.size 5 1 (.slice A bs.length c) bs.length (bv bs)) (hbase:base≤w.heap.size):RowO w' F A bs:=by
 have h1:=Rd.of_own ho
 rw [Nat.mul_one] at h1
 refine ⟨h1,fun _ a ea hm=>?_⟩
 have h2:=(ho.lt a.block (by rw [ea];rfl)).1
 have h3:=h.lt _ hm
 omega
theorem put_hr (h:HR W w p n F s) (hk:RsNum s) (off:Int) (fin:Bool) (c:Nat) (hn:n+bs.length≤1152921504606846976) (hr:RowO w F A bs) (hc:bs.length≤c) (hlt:∀ x ∈ bs,x<256) (hbl:bs.length≤1099511627776) :
  Calls Try.prog 42 #[.pointer (some ⟨p,0,none⟩),.int .i64 off,.bool fin,.slice A bs.length c] w fun e w'=>e=.returned (.tuple #[.int .i64 (putS s off fin bs).1,.int .i64 (putS s off fin bs).2.1])∧∃ F',HR W w' p (n+bs.length) F' (putS s off fin bs).2.2∧Goes w w' F F':=by
 obtain ⟨v0,v4,h1⟩:=h.st
 exact (put_rc h1 hk off fin bs A c hn hr.1 hc hr.2 hlt hbl).mono fun _ _ hh=>⟨hh.1,h.to hh.2⟩
theorem break_hr (h:HR W w p n F s) (hk:RsNum s) (code en' sure:Int) :
  Calls Try.prog 40 #[.pointer (some ⟨p,0,none⟩),.int .i64 code,.int .i64 en',.int .i64 sure] w fun e w'=>e=.returned (.tuple #[.int .i64 (breakS s code en' sure).1,.int .i64 (breakS s code en' sure).2.1])∧∃ F',HR W w' p n F' (breakS s code en' sure).2.2∧Goes w w' F F':=by
 obtain ⟨v0,v4,h1⟩:=h.st
 exact (break_rc h1 hk code en' sure).mono fun _ _ hh=>⟨hh.1,h.to hh.2⟩
theorem take_hr (h:HR W w p n F s) (hk:RsNum s) (hrd:0≤s.rd∧s.rd≤1152921504606846976) (most:Int) (m t:Nat) (hm:nS s most=(m:Int)) (ht:s.tk=(t:Int)) :
  Calls Try.prog 35 #[.pointer (some ⟨p,0,none⟩),.int .i64 most] w fun e w'=>∃ A c K' F',e=.returned (.tuple #[.slice A m c,.int .i64 (overS (takenS s m K')),.int .i64 (if overS (takenS s m K')=2 then s.code else 0)])∧HR W w' p n F' (takenS s m K')∧Goes w w' F F'∧m≤c∧RowO w' F' A (seqK s.K t m)∧∀ x,t+m≤x→K' x=s.K x:=by
 obtain ⟨v0,v4,h1⟩:=h.st
 refine (take_rc h1 hk hrd most m t hm ht).mono ?_
 rintro e w' ⟨A,c,K',F',a,b,rfl,h2,h3,h4,h5,h6,h7⟩
 obtain ⟨A',c',e',hcc,_,_,hrr⟩:=own_form h5
 simp only [Value.slice.injEq] at e'
 obtain ⟨rfl,_,rfl⟩:=e'
 rw [Nat.mul_one] at hrr
 refine ⟨A,c,K',F',rfl,⟨⟨a,b,h2⟩,fun k hk=>(h4 k hk).elim (h.lo k) (fun hh=>Nat.le_trans h.low.size hh),h.low.trans (h3.below h.low.size h.lo)⟩,⟨h3,h4⟩,hcc,⟨by rw [seqK_len];exact hrr,fun _ z ez=>h6 _ (by rw [ez];simp [fp])⟩,h7⟩
theorem count_hr (h:HR W w p n F s) (hl:s.es.length≤8796093022208) :
  Calls Try.prog 48 #[.pointer (some ⟨p,0,none⟩)] w fun e w'=>e=.returned (.int .i64 (cnt s.es))∧Below w.heap.size w w':=by
 obtain ⟨v0,v4,h1⟩:=h.st
 exact count_any _ _ _ _ _ w h1.setIn (by omega)
theorem HR.read (h:HR W w p n F s):w.cell? ⟨p,2,none⟩=some (.int .i64 s.rd)∧w.cell? ⟨p,3,none⟩=some (.int .i64 s.tl):=by
 obtain ⟨v0,v4,h1⟩:=h.st
 exact ⟨h1.cells.2.2.1,h1.cells.2.2.2.1⟩
theorem newR_num:RsNum newR:=⟨⟨by show (0:Int)≤0;omega,by show (0:Int)≤_;omega⟩,⟨by show (0:Int)≤0;omega,by show (0:Int)≤0;omega⟩,by show (0:Nat)≤_;omega⟩
theorem new_hr (w:World) (id:Int) :
  Calls Try.prog 32 #[.int .i64 id] w fun e w'=>∃ p F,e=.returned (.pointer (some ⟨p,0,none⟩))∧HR w w' p 0 F newR∧∀ k ∈ F,w.heap.size≤k:=by
 refine (new_rc w id).mono ?_
 rintro e w' ⟨p,F,v0,v4,rfl,h1,h2,h3⟩
 exact ⟨p,F,rfl,⟨⟨v0,v4,h1⟩,h2,h3⟩,h2⟩
theorem str_hr (h:RowO w F A bs) (c:Nat):(convert 30 9 (.slice A bs.length c)).run Try.prog w=.ok (.string (strOf bs)) w :=
 conv_run w 30 9 5 Try.underlying30 Try.underlying5 Try.underlying9 w.heap.size A bs.length c bs h.1
end
def kS1:Rs:=⟨[3,5],400,0,400,5,0,true,false,0,0,mixK (fun _=>0) [3,5] 3 [100,101]⟩
def kS2:Rs:=⟨[0,5],400,0,400,5,0,true,false,0,0,mixK kS1.K [0,3] 0 [97,98,99]⟩
theorem k_e1:putS newR 3 true [100,101]=(5,0,kS1):=by kernel_rfl
theorem k_e2:putS kS1 0 false [97,98,99]=(0,0,kS2):=by kernel_rfl
theorem k_e3:nS kS2 9=((5:Nat):Int):=by kernel_rfl
theorem k_e4:seqK kS2.K 0 5=[97,98,99,100,101]:=by kernel_rfl
theorem num_of {s:Rs} (h1:0≤s.top∧s.top≤4611686018427387903) (h2:0≤s.tk∧s.tk≤s.top) (h3:s.es.length≤8796093022208):RsNum s:=⟨h1,h2,h3⟩
theorem kS1_num:RsNum kS1:=num_of ⟨by show (0:Int)≤5;omega,by show (5:Int)≤_;omega⟩ ⟨by show (0:Int)≤0;omega,by show (0:Int)≤5;omega⟩ (by show 2≤8796093022208;omega)
theorem kS2_num:RsNum kS2:=num_of ⟨by show (0:Int)≤5;omega,by show (5:Int)≤_;omega⟩ ⟨by show (0:Int)≤0;omega,by show (0:Int)≤5;omega⟩ (by show 2≤8796093022208;omega)
theorem k_over (K:Nat→Nat):overS (takenS kS2 ((5:Nat):Int) K)=1:=by kernel_rfl
theorem mark_same (w:World) (g n m:Nat) (cur:Array Value) (hh:w.heap[g]?=some (.cells cur 5 (0,0))):∃ w',(convert 30 30 (.slice (some ⟨g,0,none⟩) n m)).run Try.prog w=.ok (.slice (some ⟨g,0,none⟩) n m) w'∧Below g w w'∧w'.heap.size=w.heap.size∧∀ j u,cur[j]?=some u→w'.cell? ⟨g,j,none⟩=some u:=by
 have hsh:w.shape? g=some (5,cur.size):=by unfold World.shape?;rw [hh]
 refine ⟨w.freeze ⟨g,cur.size,none⟩ 1,?_,⟨rfl,rfl,rfl,by simp [World.freeze],fun j hj=>?_⟩,by simp [World.freeze],fun j u hu=>?_⟩
 ·simp [convert,run_underlying Try.underlying30,run_underlying Try.underlying5,markStringish,hsh]
 ·simp [World.freeze,Array.getElem?_modify,show ¬ g=j by omega]
 ·simp [World.cell?,World.freeze,Array.getElem?_modify,hh,hu]
/-- Bytes of a constant text: the row is marked, and reads as it did. -/
theorem lit_bytes (w:World) (cur:Array Value) (bs:List Nat) (hc:cur.toList=bv bs) (n:Nat):∃ w',(convert 30 30 (.slice (some ⟨w.heap.size,0,none⟩) n n)).run Try.prog (w.alloc (.cells cur 5))=.ok (.slice (some ⟨w.heap.size,0,none⟩) n n) w'∧Below w.heap.size w w'∧Rd w' w'.heap.size (some ⟨w.heap.size,0,none⟩) bs.length (bv bs):=by
 obtain ⟨w',h1,h2,h3,h4⟩:=mark_same (w.alloc (.cells cur 5)) w.heap.size n n cur (heap_alloc_new w _)
 refine ⟨w',h1,((Below.refl _ _).alloc (Nat.le_refl _) _).trans h2,by simp [bv],fun _=>⟨w.heap.size,0,rfl,by rw [h3];simp,fun j u hu=>?_⟩⟩
 rw [Nat.zero_add]
 exact h4 j u (by rw [← hc] at hu;simpa using hu)
theorem lit_row {W w:World} {p n:Nat} {F:List Nat} {s:Rs} (h:HR W w p n F s) (cur:Array Value) (bs:List Nat) (hc:cur.toList=bv bs) (m:Nat):∃ w',(convert 30 30 (.slice (some ⟨w.heap.size,0,none⟩) m m)).run Try.prog (w.alloc (.cells cur 5))=.ok (.slice (some ⟨w.heap.size,0,none⟩) m m) w'∧HR W w' p n F s∧RowO w' F (some ⟨w.heap.size,0,none⟩) bs:=by
 obtain ⟨w',h1,h2,h3⟩:=lit_bytes w cur bs hc m
 exact ⟨w',h1,h.below h2,h3,fun _ a ea hk=>by cases ea;exact Nat.lt_irrefl _ (h.lt _ hk)⟩
theorem known_any (w:World):Calls Try.prog 34 #[] w fun e w'=>e=.returned (.bool true)∧Below w.heap.size w w':=by
 have HNEW:=Lib.hid (new_hr w 3)
 go_enter Try.func34,Try.ntmps34
 go_wp2_with fail
 refine HNEW.out.mono ?_
 rintro e w1 ⟨p,F1,rfl,hr1,_⟩
 have H1:=Lib.hid hr1
 clear hr1 HNEW
 obtain ⟨wl1,hcv1,hl1,hro1⟩:=lit_row H1.out #[.int .u8 100,.int .u8 101] [100,101] rfl 2
 have HP1:Hid (Calls Try.prog 42 #[.pointer (some ⟨p,0,none⟩),.int .i64 3,.bool true,.slice (some ⟨w1.heap.size,0,none⟩) 2 2] wl1 fun e w'=>e=.returned (.tuple #[.int .i64 5,.int .i64 0])∧∃ F',HR w w' p 2 F' kS1):=by
  refine (put_hr (bs:=[100,101]) hl1 newR_num 3 true 2 (by decide) hro1 (Nat.le_refl _) (by decide) (by decide)).mono ?_
  rintro e w' ⟨rfl,F',h1,_⟩
  rw [k_e1] at h1 ⊢
  exact ⟨rfl,F',h1⟩
 clear hl1 hro1
 go_wp2_with fail
 refine HP1.out.mono ?_
 rintro e w2 ⟨rfl,F2,hr2⟩
 have H2:=Lib.hid hr2
 clear hr2 HP1 hcv1
 obtain ⟨wl2,hcv2,hl2,hro2⟩:=lit_row H2.out #[.int .u8 97,.int .u8 98,.int .u8 99] [97,98,99] rfl 3
 have HP2:Hid (Calls Try.prog 42 #[.pointer (some ⟨p,0,none⟩),.int .i64 0,.bool false,.slice (some ⟨w2.heap.size,0,none⟩) 3 3] wl2 fun e w'=>e=.returned (.tuple #[.int .i64 0,.int .i64 0])∧∃ F',HR w w' p 5 F' kS2):=by
  refine (put_hr (bs:=[97,98,99]) hl2 kS1_num 0 false 3 (by decide) hro2 (Nat.le_refl _) (by decide) (by decide)).mono ?_
  rintro e w' ⟨rfl,F',h1,_⟩
  rw [k_e2] at h1 ⊢
  exact ⟨rfl,F',h1⟩
 clear hl2 hro2
 go_wp2_with fail
 refine HP2.out.mono ?_
 rintro e w3 ⟨rfl,F3,hr3⟩
 have H3:=Lib.hid hr3
 clear hr3 HP2 hcv2
 have HT:=Lib.hid (take_hr H3.out kS2_num ⟨by show (0:Int)≤0;omega,by show (0:Int)≤_;omega⟩ 9 5 0 k_e3 rfl)
 go_wp2_with fail
 refine HT.out.mono ?_
 rintro e w4 ⟨A,c,K',F4,rfl,hr4,_,hc4,hro4,_⟩
 have H4:=Lib.hid hr4
 rw [k_over]
 rw [k_e4] at hro4
 have hcv:(convert 30 9 (.slice A 5 c)).run Try.prog w4=.ok (.string (strOf [97,98,99,100,101])) w4:=str_hr hro4 c
 have hrd:=hr4.read.1
 have hcn:=Lib.hid (count_hr hr4 (by show 2≤8796093022208;omega))
 rw [show (takenS kS2 ((5:Nat):Int) K').rd=5 from by kernel_rfl] at hrd
 rw [show cnt (takenS kS2 ((5:Nat):Int) K').es=5 from by kernel_rfl] at hcn
 rw [show strOf [97,98,99,100,101]=⟨#[97,98,99,100,101]⟩ from by kernel_rfl] at hcv
 clear hr4 hro4 HT
 go_wp2_with fail
 refine hcn.out.mono ?_
 rintro e w5 ⟨rfl,hb5⟩
 have HB:=Lib.hid (H4.out.low.trans (hb5.mono H4.out.low.size))
 go_wp2_with fail
 go_ret
 exact ⟨rfl,HB.out⟩
/-- Each byte that came, and was not taken, is kept as B says; what was taken came. -/
structure RI (s:Rs) (B:Nat→Nat):Prop where
 ok:Ok s.es
 lt:∀ x:Int,mem s.es x=true→0≤x∧x<s.top
 top:0≤s.top∧s.top≤s.tl
 tl:s.tl≤1099511627776
 tk:0≤s.tk∧s.tk≤s.top
 kept:∀ x:Nat,mem s.es (x:Int)=true→s.tk≤(x:Int)→s.K x=B x
 had:∀ x:Int,0≤x→x<s.tk→mem s.es x=true
theorem edge_top {es:List Int} (h:Ok es) {T:Int} (hT:0≤T) (hm:∀ x:Int,mem es x=true→0≤x∧x<T):∀ e ∈ es,e≤T:=by
 intro e he
 by_cases hc:e≤T
 ·exact hc
 ·exfalso
  have h1:mem es (e - 1)≠mem es e:=by
   have h2:=up_contains es e h.1
   have h3:=up_eq_lo es (e - 1)
   rw [show e - 1+1=e by omega] at h3
   rw [if_pos (by simpa using he)] at h2
   unfold mem
   rw [h3,h2,oddB_add]
   cases oddB (lo es e) <;> simp [oddB_1]
  cases h2:mem es e with
  | true=>have:=(hm e h2).2;omega
  | false =>
    rw [h2] at h1
    have h3:mem es (e - 1)=true:=by cases h4:mem es (e - 1) <;> simp_all
    have:=(hm _ h3).2;omega
theorem RI.num {s:Rs} {B:Nat→Nat} (h:RI s B):RsNum s:=by
 have h1:=h.top
 have h2:=h.tl
 have h3:=small_len h.ok s.top.toNat (fun e he=>by have:=edge_top h.ok h1.1 h.lt e he;omega)
 exact ⟨⟨h1.1,by omega⟩,h.tk,by omega⟩
theorem newR_RI (B:Nat→Nat):RI newR B :=
 ⟨ok_nil,fun x hx=>by simp [newR,mem,up,oddB] at hx,⟨Int.le_refl _,by show (0:Int)≤400;omega⟩,by show (400:Int)≤_;omega,⟨Int.le_refl _,Int.le_refl _⟩,fun x hx=>by simp [newR,mem,up,oddB] at hx,fun x h0 h1=>by have h1':x<0:=h1;omega⟩
/-- What Put leaves, where it is not refused. -/
def topS (s:Rs) (e:Int) (fin:Bool) (n:Nat):Int:=if n=0∧fin=false then s.top else max s.top e
theorem put_form (s:Rs) (off:Nat) (fin:Bool) (b:List Nat) (hto:off+b.length≤4611686018427387903) (hr:refuseS s ((off:Int)+(b.length:Int)) fin=0) :
  putS s (off:Int) fin b=(topS s ((off:Int)+(b.length:Int)) fin b.length - s.top,0,⟨turn s.es off ((off:Int)+(b.length:Int)) true,s.rm,s.rd,s.tl,topS s ((off:Int)+(b.length:Int)) fin b.length,s.tk,s.en || fin,s.br,s.code,s.sure,mixK s.K (gapsF s.es (max (off:Int) s.tk) ((off:Int)+(b.length:Int))) off b⟩):=by
 unfold putS
 rw [if_neg (by omega),if_neg (by rw [hr];simp),Int.toNat_natCast]
 unfold topS
 split
 ·rw [Int.sub_self];rfl
 ·have e1:upS s ((off:Int)+(b.length:Int))=max s.top ((off:Int)+(b.length:Int)) - s.top:=by unfold upS;omega
  have e2:upS (laidS s off fin b) ((off:Int)+(b.length:Int))=max s.top ((off:Int)+(b.length:Int)) - s.top:=e1
  rw [e1]
  unfold reachS
  rw [e2]
  have e3:(laidS s off fin b).top+(max s.top ((off:Int)+(b.length:Int)) - s.top)=max s.top ((off:Int)+(b.length:Int)):=by
   show s.top+_=_
   omega
  rw [e3]
  rfl
theorem refuse_zero {s:Rs} {z:Int} {fin:Bool} (h:refuseS s z fin=0):z≤s.tl∧(s.en=true→z≤s.top)∧(fin=true→s.top≤z):=by
 unfold refuseS at h
 split at h
 ·omega
 ·rename_i h1
  split at h
  ·omega
  ·rename_i h2
   simp only [Bool.or_eq_true,Bool.and_eq_true,decide_eq_true_eq,not_or,not_and] at h2
   exact ⟨by omega,fun he=>by have:=h2.1 he;omega,fun he=>by have:=h2.2 he;omega⟩
theorem clamp_nat {z:Int} (h0:0≤z) (h1:z≤4611686018427387904):clamp z=z:=by unfold clamp;omega
theorem RI.put {s:Rs} {B:Nat→Nat} (h:RI s B) (off:Nat) (fin:Bool) (b:List Nat) (hb:∀ i,i<b.length→b.getD i 0=B (off+i)) (hr:refuseS s ((off:Int)+(b.length:Int)) fin=0) :
  RI (putS s (off:Int) fin b).2.2 B∧∀ x:Int,mem (putS s (off:Int) fin b).2.2.es x=(decide ((off:Int)≤x∧x<(off:Int)+(b.length:Int)) || mem s.es x):=by
 obtain ⟨h1,h2,h3⟩:=refuse_zero hr
 have htl:=h.tl
 have hto:off+b.length≤4611686018427387903:=by omega
 rw [put_form s off fin b hto hr]
 obtain ⟨e,he⟩:∃ e,(off:Int)+(b.length:Int)=e:=⟨_,rfl⟩
 rw [he] at h1 h2 h3 ⊢
 have hm:∀ x:Int,mem (turn s.es off e true) x=(decide ((off:Int)≤x∧x<e) || mem s.es x):=fun x=>by
  rw [mem_turn _ _ _ _ h.ok,clamp_nat (by omega) (by omega),clamp_nat (by omega) (by omega)]
  by_cases hx:(off:Int)≤x∧x<e
  ·rw [if_pos hx];simp [hx]
  ·rw [if_neg hx];simp [hx]
 have htp:=h.top
 have htk:=h.tk
 have hge:s.top≤topS s e fin b.length:=by unfold topS;split <;> omega
 have hle:topS s e fin b.length≤s.tl:=by unfold topS;split <;> omega
 refine ⟨⟨ok_turn _ _ _ _ h.ok,fun x hx=>?_,⟨by show 0≤topS _ _ _ _;omega,hle⟩,h.tl,⟨htk.1,by show s.tk≤topS _ _ _ _;omega⟩,fun x hx hxt=>?_,fun x h0 hx=>?_⟩,hm⟩
 ·have hx':mem (turn s.es off e true) x=true:=hx
  rw [hm] at hx'
  show 0≤x∧x<topS s e fin b.length
  simp only [Bool.or_eq_true,decide_eq_true_eq] at hx'
  rcases hx' with hx' | hx'
  ·refine ⟨by omega,?_⟩
   unfold topS
   rw [if_neg (fun hc=>by omega)]
   omega
  ·have:=h.lt x hx';omega
 ·have hx':mem (turn s.es off e true) (x:Int)=true:=hx
  have hxt':s.tk≤(x:Int):=hxt
  rw [hm] at hx'
  show mixK s.K (gapsF s.es (max (off:Int) s.tk) e) off b x=B x
  unfold mixK
  rw [mem_gaps h.ok,clamp_nat (by omega) (by omega),clamp_nat (by omega) (by omega)]
  by_cases hg:((max (off:Int) s.tk≤(x:Int)∧(x:Int)<e)∧mem s.es (x:Int)=false)
  ·rw [if_pos (by simp [hg])]
   rw [hb _ (by omega),show off+(x - off)=x by omega]
  ·rw [if_neg (by simp only [Bool.and_eq_true,decide_eq_true_eq,Bool.not_eq_true'];exact hg)]
   refine h.kept x ?_ hxt'
   simp only [Bool.or_eq_true,decide_eq_true_eq] at hx'
   rcases hx' with hx' | hx'
   ·cases hmm:mem s.es (x:Int) with
    | true=>rfl
    | false=>exact absurd ⟨by omega,hmm⟩ hg
   ·exact hx'
 ·have:=h.had x h0 hx
  show mem (turn s.es off e true) x=true
  rw [hm,this]
  simp
theorem RI.ready {s:Rs} {B:Nat→Nat} (h:RI s B) (x:Int) (h1:s.tk≤x) (h2:x<readyS s):mem s.es x=true:=by
 have h3:=(first_spec h.ok s.tk).2.2 x h1
 refine h3 ?_
 unfold readyS at h2
 split at h2 <;> omega
theorem RI.take {s:Rs} {B:Nat→Nat} (h:RI s B) (most:Int) (m t:Nat) (hm:nS s most=(m:Int)) (ht:s.tk=(t:Int)) (K':Nat→Nat) (hK:∀ x,t+m≤x→K' x=s.K x) :
  RI (takenS s m K') B∧seqK s.K t m=(List.range m).map fun i=>B (t+i):=by
 have hin:=nS_in h.num h.ok most
 have hmr:∀ x:Int,s.tk≤x→x<s.tk+(m:Int)→mem s.es x=true:=fun x h1 h2=>h.ready x h1 (by rw [← hm] at h2;unfold nS at h2;omega)
 refine ⟨⟨h.ok,h.lt,h.top,h.tl,⟨by show 0≤s.tk+(m:Int);have:=h.tk;omega,by show s.tk+(m:Int)≤s.top;omega⟩,fun x hx hxt=>?_,fun x h0 hx=>?_⟩,?_⟩
 ·have hxt':s.tk+(m:Int)≤(x:Int):=hxt
  show K' x=B x
  rw [hK x (by omega)]
  exact h.kept x hx (by omega)
 ·have hx':x<s.tk+(m:Int):=hx
  by_cases hc:x<s.tk
  ·exact h.had x h0 hc
  ·exact hmr x (by omega) hx'
 ·unfold seqK
  refine List.map_congr_left fun i hi=>?_
  have hi':i<m:=by simpa using hi
  exact h.kept _ (hmr _ (by omega) (by omega)) (by omega)
theorem reach_eq (z:Rs) (e T:Int) (h:z.top+upS z e=T):reachS z e=⟨z.es,z.rm,z.rd,z.tl,T,z.tk,z.en,z.br,z.code,z.sure,z.K⟩:=by
 unfold reachS
 rw [h]
theorem break_form {s:Rs} {code en' sure:Int} (hb:¬ (code<0∨code > 4611686018427387903∨sure<0∨sure > en'∨en' > 4611686018427387903)) (hr:refuseS s en' true=0) :
  breakS s code en' sure=(en' - s.top,0,⟨s.es,s.rm,s.rd,s.tl,en',s.tk,true,s.br || !wholeS s,if s.br then s.code else if wholeS s then s.code else code,if s.br then min s.sure sure else if wholeS s then s.sure else sure,s.K⟩):=by
 have h4:=(refuse_zero hr).2.2 rfl
 have e1:upS s en'=en' - s.top:=by unfold upS;omega
 unfold breakS
 rw [if_neg hb,if_neg (by rw [hr];simp),e1]
 have e2:∀ z:Rs,z.top=s.top→z.top+upS z en'=en':=fun z hz=>by unfold upS;rw [hz];omega
 refine congrArg (fun z=>((en' - s.top,(0:Int),z):Int × Int × Rs)) (reach_eq _ _ _ ?_)
 exact e2 _ rfl
theorem RI.brk {s:Rs} {B:Nat→Nat} (h:RI s B) (code en' sure:Int):RI (breakS s code en' sure).2.2 B:=by
 by_cases hb:code<0∨code > 4611686018427387903∨sure<0∨sure > en'∨en' > 4611686018427387903
 ·unfold breakS;rw [if_pos hb];exact h
 ·by_cases hr:refuseS s en' true=0
  ·obtain ⟨h1,_,h3⟩:=refuse_zero hr
   have h4:=h3 rfl
   have h5:=h.top
   rw [break_form hb hr]
   exact ⟨h.ok,fun x hx=>by have:=h.lt x hx;exact ⟨this.1,by show x<en';omega⟩,⟨by show 0≤en';omega,h1⟩,h.tl,⟨h.tk.1,Int.le_trans h.tk.2 h4⟩,h.kept,h.had⟩
  ·unfold breakS;rw [if_neg hb,if_pos hr];exact h
end Go.Proofs.Ytoahkffdoaphlaa.Re
