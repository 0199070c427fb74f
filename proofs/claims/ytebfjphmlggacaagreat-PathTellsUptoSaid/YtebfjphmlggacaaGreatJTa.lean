/- Joined texts. PathTells: the program's path and the reference's, side by side: plain facts. Conditions: as each theorem lists them. The law's runs, the reference's NewPath: contracts. Conditions: as each theorem lists them. PathTells: the hand's right frames as a ledger's; a step of both sides. Conditions: as each theorem lists them. -/
import Derived.Test.YtebfjphmlggacaaGreatJXi
import Derived.Test.YtebfjphmlggacaaGreatJSq
import Derived.Test.YtebfjphmlggacaaGreatJOd
import Derived.Test.YtebfjphmlggacaaGreatJPaKn
import Derived.Test.YtebfjphmlggacaaGreatJH1
set_option linter.unusedSimpArgs false
set_option linter.unusedVariables false

namespace Go.Proofs.YtebfjphmlggacaaGreat.Pt
open Go Go.RowKit Go.Proofs.YtebfjphmlggacaaGreat Go.Proofs.YtebfjphmlggacaaGreat.Sp Go.Proofs.YtebfjphmlggacaaGreat.Ld
open Go.Proofs.YtebfjphmlggacaaGreat.Pa (allF allF_app selK selK_map selK_mem PathIn FrRow lastN lastAt badL heardS probeF lateS inRs Rc RcOk CallsIn rcC elicF SendP)
open Go.Proofs.YtebfjphmlggacaaGreat.Xr (RPathIn RLed RSendP)
open Go.Proofs.YtebfjphmlggacaaGreat.Sq (TwinQ PlQ)

/-- Packets that are the same, wherever their frames lie. -/
def TwinK : List (Pk × List Fq) → List (Pk × List Fq) → Prop
  | [], [] => True
  | x :: r, x' :: r' => (x'.1.num = x.1.num ∧ x'.1.at' = x.1.at' ∧ x'.1.el = x.1.el ∧ TwinQ x.2 x'.2) ∧ TwinK r r'
  | _, _ => False
theorem TwinK.len : ∀ {a b : List (Pk × List Fq)}, TwinK a b → a.length = b.length
  | [], [], _ => rfl
  | _ :: _, _ :: _, h => by rw [List.length_cons, List.length_cons, TwinK.len h.2]
  | [], _ :: _, h => h.elim
  | _ :: _, [], h => h.elim
theorem TwinK.snoc : ∀ {a b : List (Pk × List Fq)}, TwinK a b → ∀ {x x' : Pk × List Fq}, (x'.1.num = x.1.num ∧ x'.1.at' = x.1.at' ∧ x'.1.el = x.1.el ∧ TwinQ x.2 x'.2) → TwinK (a ++ [x]) (b ++ [x'])
  | [], [], _, _, _, h => ⟨h, trivial⟩
  | _ :: _, _ :: _, h, _, _, k => ⟨h.1, TwinK.snoc h.2 k⟩
  | [], _ :: _, h, _, _, _ => h.elim
  | _ :: _, [], h, _, _, _ => h.elim
theorem TwinK.sel (f : Pk → Bool) (hf : ∀ k k' : Pk, k'.num = k.num → k'.at' = k.at' → f k' = f k) : ∀ {a b : List (Pk × List Fq)}, TwinK a b → TwinK (selK f a) (selK f b)
  | [], [], _ => trivial
  | x :: r, x' :: r', h => by
    have ih := TwinK.sel f hf h.2
    have e := hf x.1 x'.1 h.1.1 h.1.2.1
    unfold selK at ih ⊢
    rw [List.filter_cons, List.filter_cons, e]
    cases f x.1
    · exact ih
    · exact ⟨h.1, ih⟩
  | [], _ :: _, h => h.elim
  | _ :: _, [], h => h.elim
theorem TwinK.all : ∀ {a b : List (Pk × List Fq)}, TwinK a b → TwinQ (allF a) (allF b)
  | [], [], _ => trivial
  | x :: r, x' :: r', h => by
    have e : ∀ (y : Pk × List Fq) (l : List (Pk × List Fq)), allF (y :: l) = y.2 ++ allF l := fun y l => by simp [Pa.allF]
    rw [e, e]
    exact TwinQ.app h.1.2.2.2 (TwinK.all h.2)
  | [], _ :: _, h => h.elim
  | _ :: _, [], h => h.elim
theorem TwinK.elsE : ∀ {a b : List (Pk × List Fq)}, TwinK a b → els (b.map (·.1)) = els (a.map (·.1))
  | [], [], _ => rfl
  | x :: r, x' :: r', h => by
    have ih := TwinK.elsE h.2
    unfold els at ih ⊢
    simp only [List.map_cons, List.countP_cons, ih, h.1.2.2.1]
  | [], _ :: _, h => h.elim
  | _ :: _, [], h => h.elim
theorem TwinK.last : ∀ {a b : List (Pk × List Fq)}, TwinK a b → (b.map (·.1)).getLast?.map (fun k => (k.num, k.at')) = (a.map (·.1)).getLast?.map (fun k => (k.num, k.at'))
  | [], [], _ => rfl
  | [x], [x'], h => by
    show some (x'.1.num, x'.1.at') = some (x.1.num, x.1.at')
    rw [h.1.1, h.1.2.1]
  | x :: y :: r, x' :: y' :: r', h => by
    have ih := TwinK.last (a := y :: r) (b := y' :: r') h.2
    simp only [List.map_cons, List.getLast?_cons_cons] at ih ⊢
    exact ih
  | [_], _ :: _ :: _, h => h.2.elim
  | _ :: _ :: _, [_], h => h.2.elim
  | [], _ :: _, h => h.elim
  | _ :: _, [], h => h.elim
theorem TwinK.lastNE {a b : List (Pk × List Fq)} (h : TwinK a b) : lastN b = lastN a := by
  have := congrArg (fun o => (o.map Prod.fst).getD 0) h.last
  simpa [Pa.lastN, Option.map_map, Function.comp_def] using this
theorem TwinK.lastAtE {a b : List (Pk × List Fq)} (h : TwinK a b) : lastAt b = lastAt a := by
  have := congrArg (fun o => (o.map Prod.snd).getD 0) h.last
  simpa [Pa.lastAt, Option.map_map, Function.comp_def] using this
theorem TwinK.old : ∀ {a b : List (Pk × List Fq)}, TwinK a b → oldF (b.map (·.1)) = oldF (a.map (·.1))
  | [], [], _ => rfl
  | x :: r, x' :: r', h => by
    have ih := TwinK.old h.2
    unfold oldF at ih ⊢
    simp only [List.map_cons, List.find?_cons, h.1.2.2.1]
    cases x.1.el
    · exact ih
    · simp only [h.1.2.1]
  | [], _ :: _, h => h.elim
  | _ :: _, [], h => h.elim
theorem late_own (behind : Nat) (now : Int) (s : Rtt.RS) (k k' : Pk) (h1 : k'.num = k.num) (h2 : k'.at' = k.at') : lateS behind now s k' = lateS behind now s k := by
  unfold lateS selB oldB
  rw [h1, h2]
theorem inRs_own (rs : List (Int × Int)) (k k' : Pk) (h1 : k'.num = k.num) (_ : k'.at' = k.at') : inRs rs k' = inRs rs k := by
  unfold inRs
  rw [h1]
theorem TwinK.bad {a b : List (Pk × List Fq)} (h : TwinK a b) (wd : Cg.Win) (next : Nat) : badL wd b next = badL wd a next := by
  unfold badL
  rw [h.elsE, h.lastNE]
theorem TwinK.heard {a b : List (Pk × List Fq)} (h : TwinK a b) (s : Rtt.RS) (bh : Nat) (now : Int) : heardS s b bh now = heardS s a bh now := by
  unfold heardS
  rw [h.elsE, h.lastNE, h.lastAtE]
theorem TwinK.probe {a b : List (Pk × List Fq)} (h : TwinK a b) (s : Rtt.RS) (now : Int) : probeF s b now = probeF s a now := by
  unfold probeF
  rw [h.old]
theorem allF_le (f : Pk → Bool) (kq : List (Pk × List Fq)) : (allF (selK f kq)).length ≤ (allF kq).length := Pa.allF_filter _ kq
theorem TwinK.tot {a b : List (Pk × List Fq)} (h : TwinK a b) : (allF b).length = (allF a).length := (h.all.len).symm
theorem TwinK.plain : ∀ {a b : List (Pk × List Fq)}, TwinK a b → (∀ x ∈ a, ∀ q ∈ x.2, PlQ q) → ∀ x ∈ b, ∀ q ∈ x.2, PlQ q
  | [], [], _, _, x, hx => by cases hx
  | x :: r, x' :: r', h, hp, y, hy => by
    rcases List.mem_cons.1 hy with rfl | hy
    · have key : ∀ {l1 l2 : List Fq}, TwinQ l1 l2 → (∀ q ∈ l1, PlQ q) → ∀ q ∈ l2, PlQ q := by
        intro l1
        induction l1 with
        | nil => intro l2 ht _ q hq; cases l2 with
          | nil => cases hq
          | cons => exact ht.elim
        | cons z l ih => intro l2 ht hl q hq; cases l2 with
          | nil => cases hq
          | cons z' l' =>
            rcases List.mem_cons.1 hq with rfl | hq
            · exact (hl z (by simp)).same ht.1
            · exact ih ht.2 (fun q hq => hl q (List.mem_cons_of_mem _ hq)) q hq
      exact key h.1.2.2.2 (hp x (by simp))
    · exact TwinK.plain h.2 (fun z hz => hp z (List.mem_cons_of_mem _ hz)) y hy
  | [], _ :: _, h, _, _, _ => h.elim
  | _ :: _, [], h, _, _, _ => h.elim
theorem TwinK.ats : ∀ {a b : List (Pk × List Fq)}, TwinK a b → ∀ {p : Int → Prop}, (∀ x ∈ a, p x.1.at') → ∀ x ∈ b, p x.1.at'
  | [], [], _, _, _, x, hx => by cases hx
  | x :: r, x' :: r', h, p, hp, y, hy => by
    rcases List.mem_cons.1 hy with rfl | hy
    · rw [h.1.2.1]; exact hp x (by simp)
    · exact TwinK.ats h.2 (fun z hz => hp z (List.mem_cons_of_mem _ hz)) y hy
  | [], _ :: _, h, _, _, _, _ => h.elim
  | _ :: _, [], h, _, _, _, _ => h.elim
theorem TwinK.nums : ∀ {a b : List (Pk × List Fq)}, TwinK a b → ∀ {p : Nat → Prop}, (∀ x ∈ a, p x.1.num) → ∀ x ∈ b, p x.1.num
  | [], [], _, _, _, x, hx => by cases hx
  | x :: r, x' :: r', h, p, hp, y, hy => by
    rcases List.mem_cons.1 hy with rfl | hy
    · rw [h.1.1]; exact hp x (by simp)
    · exact TwinK.nums h.2 (fun z hz => hp z (List.mem_cons_of_mem _ hz)) y hy
  | [], _ :: _, h, _, _, _, _ => h.elim
  | _ :: _, [], h, _, _, _, _ => h.elim

/-- The reference's path stays where the program's turns, and the other way about. -/
theorem RPathIn.moved {w w' : World} {lo lo' p r : Nat} {s : Rtt.RS} {kq : List (Pk × List Fq)} {next acked : Nat} {wd : Cg.Win} {cu : Array Value} (h : RPathIn w lo' r s kq next acked wd) (hm : Moved lo p w w') (hp : w.heap[p]? = some (.cells cu 61 (0, 0))) : RPathIn w' lo' r s kq next acked wd := by
  obtain ⟨cur, h1, h2, h3⟩ := h.cur
  have hne : r ≠ p := fun e => by
    subst e
    rw [h1.1] at hp
    simp at hp
  have e : w'.heap[r]? = w.heap[r]? := hm.kept r (lt_of_block h1.1) hne fun row e' => by
    rw [h1.1] at e'
    simp at e'
  obtain ⟨A, c, e1, ho, hl⟩ := h2.row
  exact ⟨⟨cur, ⟨e.trans h1.1, h1.2⟩, ⟨h2.hlo, e.trans h2.hp, h2.hT, ⟨A, c, e1, Pa.own_moved ho hm hp (by decide) (by decide), hl⟩, h2.c1, h2.c2⟩, ⟨e.trans h3.hp, h3.c0, h3.c1, h3.c2, h3.c3⟩⟩, h.good, h.ok, fun x hx => (h.rows x hx).moved hm hp (by decide) (by decide) (by decide)⟩
theorem PathIn.grown {w w' : World} {lo p r : Nat} {s : Rtt.RS} {kq : List (Pk × List Fq)} {next behind : Nat} {wd : Cg.Win} {cu : Array Value} (h : PathIn w lo p s kq next behind wd) (hg : w.grownBy w' (some r)) (hr : w.heap[r]? = some (.cells cu 43 (0, 0))) : PathIn w' lo p s kq next behind wd := by
  obtain ⟨cur, h1, h2, h3⟩ := h.cur
  have hcells : ∀ (i : Nat) (cs : Array Value) (t : TypeId) (fr : Nat × Nat), w.heap[i]? = some (.cells cs t fr) → t ≠ 43 → w'.heap[i]? = w.heap[i]? := fun i cs t fr hi ht => hg.block i (lt_of_block hi) fun e => by
    simp only [Option.some.injEq] at e
    subst e
    rw [hr] at hi
    simp only [Option.some.injEq, Obj.cells.injEq] at hi
    exact ht hi.2.1.symm
  have e := hcells p _ _ _ h1.1 (by decide)
  refine ⟨⟨cur, ⟨e.trans h1.1, h1.2⟩, ?_, ⟨e.trans h3.hp, h3.c0, h3.c1, h3.c2, h3.c3⟩⟩, h.good, h.ok, fun x hx => (h.rows x hx).other hg hr (by decide) (by decide) (by decide)⟩
  obtain ⟨os, a1, a2⟩ := h2.led
  obtain ⟨A, c, e1, hrow⟩ := a1.row
  exact ⟨os, ⟨a1.hlo, Nat.lt_of_lt_of_le a1.hhi hg.size, Nat.le_refl _, a1.hT, e.trans a1.hp, ⟨A, c, e1, hrow.mono hg.size fun i hi ⟨cs, t, ht, hcs⟩ => hcells i cs t _ hcs (by rcases ht with rfl | rfl <;> decide)⟩, a1.c1, a1.c2, a1.c3, a1.len, a1.nums, a1.beh⟩, a2⟩
theorem RPathIn.blk {w : World} {lo r : Nat} {s : Rtt.RS} {kq : List (Pk × List Fq)} {next acked : Nat} {wd : Cg.Win} (h : RPathIn w lo r s kq next acked wd) : ∃ cu, w.heap[r]? = some (.cells cu 43 (0, 0)) := by
  obtain ⟨cur, h1, _⟩ := h.cur
  exact ⟨cur, h1.1⟩
theorem PathIn.blk {w : World} {lo p : Nat} {s : Rtt.RS} {kq : List (Pk × List Fq)} {next behind : Nat} {wd : Cg.Win} (h : PathIn w lo p s kq next behind wd) : ∃ cu, w.heap[p]? = some (.cells cu 61 (0, 0)) := by
  obtain ⟨cur, h1, _⟩ := h.cur
  exact ⟨cur, h1.1⟩

/-- Behind j calls, the time no more than 2 m. -/
structure TellI (w wr : World) (p r j m : Nat) (now : Int) (s : Rtt.RS) (kq kr : List (Pk × List Fq)) (next behind : Nat) (wd : Cg.Win) : Prop where
  path : PathIn wr w.heap.size p s kq next behind wd
  ref : RPathIn wr 0 r s kr next behind wd
  rlo : w.heap.size ≤ r
  twin : TwinK kq kr
  plain : ∀ x ∈ kq, ∀ q ∈ x.2, PlQ q
  below : Below w.heap.size w wr
  nx : next ≤ j
  now : 0 ≤ now ∧ now ≤ 2 * m
  bk : 0 ≤ s.bk ∧ s.bk ≤ j
  ats : ∀ x ∈ kq, 0 ≤ x.1.at' ∧ x.1.at' ≤ 2 * m
  tot : (allF kq).length ≤ 3 * j
section
variable {w wr w1 w2 w' : World} {p r j m : Nat} {now : Int} {s s' : Rtt.RS} {kq kr kq' kr' : List (Pk × List Fq)} {next behind next' behind' : Nat} {wd wd' : Cg.Win}
theorem TellI.keep (h : TellI w wr p r j m now s kq kr next behind wd) (hb : Below wr.heap.size wr w') : TellI w w' p r j m now s kq kr next behind wd :=
  ⟨h.path.keep hb, h.ref.keep hb, h.rlo, h.twin, h.plain, h.below.trans (hb.mono h.below.size), h.nx, h.now, h.bk, h.ats, h.tot⟩
/-- A call begins: time goes on by d. -/
theorem TellI.tick (h : TellI w wr p r j j now s kq kr next behind wd) (d : Int) (hd : 0 ≤ d ∧ d ≤ 2) : TellI w wr p r j (j + 1) (now + d) s kq kr next behind wd :=
  ⟨h.path, h.ref, h.rlo, h.twin, h.plain, h.below, h.nx, by have := h.now; omega, h.bk, fun x hx => by have := h.ats x hx; omega, h.tot⟩
theorem TellI.more (h : TellI w wr p r j m now s kq kr next behind wd) : TellI w wr p r (j + 1) m now s kq kr next behind wd :=
  ⟨h.path, h.ref, h.rlo, h.twin, h.plain, h.below, by have := h.nx; omega, h.now, by have := h.bk; omega, h.ats, by have := h.tot; omega⟩
theorem TellI.lens (h : TellI w wr p r j m now s kq kr next behind wd) : kq.length ≤ next ∧ kr.length ≤ next ∧ behind ≤ next ∧ (∀ x ∈ kq, x.1.num < next) ∧ (∀ x ∈ kr, x.1.num < next) ∧ (allF kr).length ≤ 3 * j ∧ (∀ x ∈ kr, 0 ≤ x.1.at' ∧ x.1.at' ≤ 2 * m) := by
  obtain ⟨_, h2, h3, h4⟩ := h.path.rising
  exact ⟨h3, by rw [← h.twin.len]; exact h3, h4, h2, h.twin.nums (p := fun n => n < next) h2, by rw [h.twin.tot]; exact h.tot, h.twin.ats (p := fun a => 0 ≤ a ∧ a ≤ 2 * m) h.ats⟩
/-- Behind the program's call the reference's path is as it was; behind the reference's the program's. -/
theorem TellI.mid (h : TellI w wr p r j m now s kq kr next behind wd) (hm : Moved w.heap.size p wr w1) : RPathIn w1 0 r s kr next behind wd := by
  obtain ⟨cu, hc⟩ := PathIn.blk h.path
  exact RPathIn.moved h.ref hm hc
theorem TellI.step (h : TellI w wr p r j m now s kq kr next behind wd) (hp : PathIn w1 w.heap.size p s' kq' next' behind' wd') (hm : Moved w.heap.size p wr w1) (hr : RPathIn w2 0 r s' kr' next' behind' wd') (hg : w1.grownBy w2 (some r)) (ht : TwinK kq' kr') (hpl : ∀ x ∈ kq', ∀ q ∈ x.2, PlQ q) (hn : next' ≤ j + 1) (hb : 0 ≤ s'.bk ∧ s'.bk ≤ j + 1) (ha : ∀ x ∈ kq', 0 ≤ x.1.at' ∧ x.1.at' ≤ 2 * m) (htt : (allF kq').length ≤ 3 * (j + 1)) :
    TellI w w2 p r (j + 1) m now s' kq' kr' next' behind' wd' := by
  obtain ⟨cu, hc⟩ := RPathIn.blk (h.mid hm)
  exact ⟨PathIn.grown hp hg hc, hr, h.rlo, ht, hpl, (h.below.trans hm.below).grown hg (h.below.trans hm.below).size (fun k hk => by cases hk; exact h.rlo), hn, h.now, hb, ha, htt⟩
/-- What the program told stays while the reference goes. -/
theorem TellI.kept (h : TellI w wr p r j m now s kq kr next behind wd) (hm : Moved w.heap.size p wr w1) (hg : w1.grownBy w2 (some r)) {lo B : Nat} {l : List Fq} {A : Option Addr} {n c : Nat} (ho : w1.ownsRow B 68 9 (.slice A n c) n (fqs l)) (hq : ∀ q ∈ l, FqOwn w1 lo q) : w2.ownsRow B 68 9 (.slice A n c) n (fqs l) ∧ ∀ q ∈ l, FqOwn w2 lo q := by
  obtain ⟨cu, hc⟩ := RPathIn.blk (h.mid hm)
  exact ⟨Pa.own_other ho hg hc (by decide), fun q hx => ⟨Pa.own_other (hq q hx).1 hg hc (by decide), Pa.own_other (hq q hx).2 hg hc (by decide)⟩⟩
/-- What both tell is the same. -/
theorem TellI.frames {w0 : World} {lo lo' : Nat} {a b : List (Pk × List Fq)} {A A' : Option Addr} {c c' : Nat} (ht : TwinK a b) (hp : ∀ x ∈ a, ∀ q ∈ x.2, PlQ q) (hn : (allF a).length ≤ 1099511627776) {B B' : Nat} (h1 : w0.ownsRow B 68 9 (.slice A (allF a).length c) (allF a).length (fqs (allF a))) (h2 : w0.ownsRow B' 68 9 (.slice A' (allF b).length c') (allF b).length (fqs (allF b))) (o1 : ∀ q ∈ allF a, FqOwn w0 lo q) (o2 : ∀ q ∈ allF b, FqOwn w0 lo' q) :
    ∀ W, Below w0.heap.size w0 W → Calls Tryz.prog 11 #[.slice A (allF a).length c, .slice A' (allF b).length c'] W fun e w' => e = .returned (.bool true) ∧ Below W.heap.size W w' := fun W hW => by
  have k1 := own_below h1 hW
  have k2 := own_below h2 hW
  obtain ⟨_, _, e1, l1, _, _, r1⟩ := own_form k1
  obtain ⟨_, _, e2, l2, _, _, r2⟩ := own_form k2
  simp only [Value.slice.injEq, true_and] at e1 e2
  obtain ⟨rfl, rfl⟩ := e1
  obtain ⟨rfl, rfl⟩ := e2
  have hl : (allF b).length = (allF a).length := ht.tot
  rw [hl] at l2 r2 ⊢
  have m1 : ∀ q ∈ allF a, PlQ q := fun q hq => by
    obtain ⟨x, hx, hq⟩ := List.mem_flatMap.1 hq
    exact hp x hx q hq
  have m2 : ∀ q ∈ allF b, PlQ q := fun q hq => by
    obtain ⟨x, hx, hq⟩ := List.mem_flatMap.1 hq
    exact ht.plain hp x hx q hq
  exact Sq.twins_same (allF a) (allF b) ht.all A A' _ _ _ rfl r1 r2 l1 l2 hn (fun q hq => ⟨(o1 q hq).keep hW, m1 q hq⟩) (fun q hq => ⟨(o2 q hq).keep hW, m2 q hq⟩)
end
end Go.Proofs.YtebfjphmlggacaaGreat.Pt

namespace Go.Proofs.YtebfjphmlggacaaGreat.Pt
open Go Go.RowKit Go.Proofs.YtebfjphmlggacaaGreat Go.Proofs.YtebfjphmlggacaaGreat.Sp Go.Proofs.YtebfjphmlggacaaGreat.Ld
open Go.Proofs.YtebfjphmlggacaaGreat.Xr (RPathIn RLed)

theorem infoP2 : (Tryz.prog.info? 69).map (fun i => (i.zero, i.size, i.bytes)) = some (some (.agg #[.int .i64 0, .int .i64 0]), 2, 16) := by kernel_rfl
set_option maxRecDepth 100000 in
set_option maxHeartbeats 8000000 in
theorem runs_any (l : List Int) (A : Option Addr) (c : Nat) (next : Nat) (w : World) (hx : Rd w w.heap.size A l.length (ints l)) (hc : l.length ≤ c) (hll : l.length ≤ 4611686018427387904) (hn : next ≤ 1099511627776) :
    Calls Tryz.prog 8 #[.slice A l.length c, .int .i64 (next : Int)] w fun e w' => ∃ rs A' c', e = .returned (.slice A' rs.length c') ∧ rs.length ≤ 3 ∧ w'.ownsRow w.heap.size 69 2 (.slice A' rs.length c') rs.length (ints (pl rs)) ∧ Below w.heap.size w w' := by
  obtain ⟨n, hn0⟩ : ∃ x, Hid (l.length = x) := ⟨_, rfl⟩
  rw [hn0.out] at hx hc hll ⊢
  have HX := Lib.hid hx
  have hnI : (next : Int) ≤ 1099511627776 := by omega
  have hncI : (n : Int) ≤ (c : Int) := by omega
  have hlI : (n : Int) ≤ 4611686018427387904 := by omega
  obtain ⟨i0, hi, hz0, hz1, hz2⟩ := info_parts infoP2
  have HI := Lib.hid (And.intro hi (And.intro hz0 (And.intro hz1 hz2)))
  clear hi hz0 hz1 hz2 hx
  go_enter Tryz.func8, Tryz.ntmps8
  go_wp2_with fail
  go_loopw [5, 6] (fun v i wr => ∃ k N : Nat, k ≤ 3 ∧ N = 2 * k ∧ i = .int .i64 (N : Int) ∧ (∃ A3 c3, v = .slice A3 k c3) ∧ Hid (∃ rs : List (Int × Int), rs.length = k ∧ wr.ownsRow w.heap.size 69 2 v k (ints (pl rs)) ∧ Below w.heap.size w wr)) (fun _ i _ => 6 - (intOf i).toNat)
  case atStart => exact ⟨0, 0, by omega, rfl, rfl, ⟨_, _, rfl⟩, [], rfl, own_nil _ _ _ _, Below.refl _ _⟩
  case round =>
    obtain ⟨k, N, hk, hN, rfl, ⟨A3, c3, rfl⟩, HK⟩ := hrel
    obtain ⟨rs, hrs, hown, hb⟩ := HK.out
    clear HK
    have HNK := Lib.hid hN
    have hN6 : (N : Int) ≤ 6 := by omega
    by_cases hlt : N + 1 < n ∧ N < 6
    · obtain ⟨hl1, hl2⟩ := hlt
      have hl1I : (N : Int) + 1 < (n : Int) := by omega
      have hl2I : (N : Int) < 6 := by omega
      have hl0I : (N : Int) < (n : Int) := by omega
      obtain ⟨b, off, hA, hbl, hcs⟩ := HX.out.2 (by omega)
      subst hA
      obtain ⟨v0, hv0⟩ : ∃ x, l.getD N 0 = x := ⟨_, rfl⟩
      obtain ⟨v1, hv1⟩ : ∃ x, l.getD (N + 1) 0 = x := ⟨_, rfl⟩
      have hcx : wr.cell? ⟨b, off + N, none⟩ = some (.int .i64 v0) := by
        rw [hb.cell (p := ⟨b, off + N, none⟩) hbl, hcs N _ (ints_get _ _ (by have := hn0.out; omega)), hv0]
      have hcy : wr.cell? ⟨b, off + (N + 1), none⟩ = some (.int .i64 v1) := by
        rw [hb.cell (p := ⟨b, off + (N + 1), none⟩) hbl, hcs (N + 1) _ (ints_get _ _ (by have := hn0.out; omega)), hv1]
      have HBL : Hid (b < w.heap.size) := hbl
      have q1a := Int.emod_nonneg v0 (show (next : Int) + 1 ≠ 0 by omega)
      have q1b := Int.emod_lt_of_pos v0 (show (0 : Int) < (next : Int) + 1 by omega)
      have q2a := Int.emod_nonneg v1 (show (4 : Int) ≠ 0 by decide)
      have q2b := Int.emod_lt_of_pos v1 (show (0 : Int) < 4 by decide)
      have HQ1 := Lib.hid (fun W => pick_any v0 ((next : Int) + 1) W (by omega) (by omega))
      have HQ2 := Lib.hid (fun W => pick_any v1 4 W (by decide) (by decide))
      have HQ4 := Lib.hid (fun W => pick_any v0 31 W (by decide) (by decide))
      obtain ⟨q1, hq1⟩ : ∃ x, v0 % ((next : Int) + 1) = x := ⟨_, rfl⟩
      obtain ⟨q2, hq2⟩ : ∃ x, v1 % 4 = x := ⟨_, rfl⟩
      obtain ⟨q4, hq4⟩ : ∃ x, v0 % 31 = x := ⟨_, rfl⟩
      rw [hq1] at q1a q1b HQ1
      rw [hq2] at q2a q2b HQ2
      rw [hq4] at HQ4
      clear hq1 hq2 hq4 hv0 hv1 hcs hbl hN
      have HO := Lib.hid hown
      have HB := Lib.hid hb
      have HLN := Lib.hid hrs
      clear hown hb hrs
      go_wp2_with fail
      refine (HQ1.out _).mono ?_; rintro e w' ⟨rfl, rfl⟩
      go_wp2_with fail
      refine (HQ2.out _).mono ?_; rintro e w' ⟨rfl, rfl⟩
      have HRR : Hid (Rd (wr.alloc (.cells #[.int .i64 (q1), .int .i64 (min (q1 + q2) ((next : Int) - 1))] 69)) (wr.heap.size + 1) (some ⟨wr.heap.size, 0, none⟩) (1 * 2) (ints [q1, min (q1 + q2) ((next : Int) - 1)])) := rd_new _ _ _ _ _ _ _ rfl (by omega) rfl rfl
      have hd2 : Hid (k + 1 ≤ maxLen) := by show _ ≤ _; unfold maxLen; omega
      have hd3 : Hid ((k + 1) * 16 ≤ 140737488355328) := by show _ ≤ _; omega
      have hd4 : Hid (w.heap.size ≤ (wr.alloc (.cells #[.int .i64 (q1), .int .i64 (min (q1 + q2) ((next : Int) - 1))] 69)).heap.size) := by have := HB.out.size; show _ ≤ _; simp only [World.size_alloc]; omega
      go_wp2_with (at_builtin; refine wpList_app _ rfl (.tmp 26) (.tmp 40) 33 rfl w.heap.size 69 i0 (.agg #[.int .i64 0, .int .i64 0]) 2 16 Tryz.underlying33 HI.out.1 HI.out.2.1 HI.out.2.2.1 HI.out.2.2.2 rfl (by decide) (.slice A3 k c3) k (ints (pl rs)) rfl (HO.out.alloc _) (wr.heap.size + 1) (some ⟨wr.heap.size, 0, none⟩) 1 _ (ints [q1, min (q1 + q2) ((next : Int) - 1)]) rfl HRR.out (ones_ints _) hd2.out hd3.out hd4.out ?_)
      intro v5 w5 ho5 hg5
      obtain ⟨A5, c5, e5, hkc, _⟩ := own_form ho5
      subst e5
      have hb5 : Below w.heap.size w w5 := HB.out.trans (((Below.refl _ _).alloc HB.out.size _).grown hg5 hd4.out (fun g hg => (HO.out.lt g hg).1))
      have hcx5 : w5.cell? ⟨b, off + N, none⟩ = some (.int .i64 v0) := by
        rw [hb5.cell (p := ⟨b, off + N, none⟩) HBL.out, ← HB.out.cell (p := ⟨b, off + N, none⟩) HBL.out]; exact hcx
      have hcy5 : w5.cell? ⟨b, off + (N + 1), none⟩ = some (.int .i64 v1) := by
        rw [hb5.cell (p := ⟨b, off + (N + 1), none⟩) HBL.out, ← HB.out.cell (p := ⟨b, off + (N + 1), none⟩) HBL.out]; exact hcy
      rw [show ints (pl rs) ++ ints [q1, min (q1 + q2) ((next : Int) - 1)] = ints (pl (rs ++ [(q1, min (q1 + q2) ((next : Int) - 1))])) by rw [pl_app, ints_app]; rfl] at ho5
      have HO5 := Lib.hid ho5
      have HB5 := Lib.hid hb5
      obtain ⟨g, hg⟩ : ∃ g, A5 = some ⟨g, 0, none⟩ := by
        rcases ho5.2 with ⟨_, e⟩ | ⟨g, _, _, e, _⟩
        · omega
        · simp only [Value.slice.injEq] at e; exact ⟨g, e.1⟩
      subst hg
      have hcell5 : ∃ u, w5.cell? ⟨g, k * 2 + 1, none⟩ = some u := by
        have := ho5.cellAt (k * 2 + 1) (by omega)
        rw [ints_get _ _ (by rw [pl_len, List.length_append, HLN.out]; show _ < 2 * (k + 1); omega)] at this
        exact ⟨_, this⟩
      obtain ⟨u5, hu5⟩ := hcell5
      have hf5 : w5.frozen? ⟨g, k * 2 + 1, none⟩ = false := ho5.frozenAt _
      have hkcI : (k : Int) + 1 ≤ (c5 : Int) := by omega
      clear ho5 hg5 hb5 hcx hcy HRR hd2 hd3 hd4
      go_wp2_with fail
      refine (HQ4.out _).mono ?_; rintro e w' ⟨rfl, rfl⟩
      by_cases h28 : q4 = 30
      · have h28b : (q4 == 30) = true := by simp [h28]
        have HN' : Hid (∃ rs : List (Int × Int), rs.length = k + 1 ∧ (w5.setCell ⟨g, k * 2 + 1, none⟩ (.int .i64 ((next : Int)))).ownsRow w.heap.size 69 2 (.slice (some ⟨g, 0, none⟩) (k + 1) c5) (k + 1) (ints (pl rs)) ∧ Below w.heap.size w (w5.setCell ⟨g, k * 2 + 1, none⟩ (.int .i64 ((next : Int))))) := by
          refine ⟨rs ++ [(q1, (next : Int))], by rw [List.length_append, HLN.out]; rfl, ?_, HB5.out.setCell (HO5.out.lt g rfl).1 _⟩
          have := HO5.out.stored (k * 2 + 1) (.int .i64 ((next : Int)))
          have h2 := this.1
          rw [show ints (pl (rs ++ [(q1, min (q1 + q2) ((next : Int) - 1))])) = ints (pl rs) ++ [.int .i64 (q1), .int .i64 (min (q1 + q2) ((next : Int) - 1))] by rw [pl_app, ints_app]; rfl] at h2
          rw [List.set_append_right _ _ (by rw [ints_len, pl_len, HLN.out]; omega)] at h2
          rw [show k * 2 + 1 - (ints (pl rs)).length = 1 by rw [ints_len, pl_len, HLN.out]; omega] at h2
          rw [show ints (pl (rs ++ [(q1, (next : Int))])) = ints (pl rs) ++ [.int .i64 (q1), .int .i64 ((next : Int))] by rw [pl_app, ints_app]; rfl]
          exact h2
        have hN2 : (N : Int) + 2 = ((2 * (k + 1) : Nat) : Int) := by have := HNK.out; omega
        have x2 : IntKind.i64.wrap (k : Int) = (k : Int) := IntWalk.i64_in _ (by omega)
        have y2 : (k : Int) < (k : Int) + 1 := by omega
        have y3 : 0 ≤ (k : Int) := by omega
        clear HO5 HB5
        go_wp2_with fail
        refine ⟨⟨k + 1, 2 * (k + 1), by omega, rfl, by first | go_num | rw [hN2], ⟨_, _, rfl⟩, HN'⟩, ?_⟩
        simp [intOf]; omega
      · have h28b : (q4 == 30) = false := by simp [h28]
        have HN' : Hid (∃ rs : List (Int × Int), rs.length = k + 1 ∧ w5.ownsRow w.heap.size 69 2 (.slice (some ⟨g, 0, none⟩) (k + 1) c5) (k + 1) (ints (pl rs)) ∧ Below w.heap.size w w5) := ⟨_, by rw [List.length_append, HLN.out]; rfl, HO5.out, HB5.out⟩
        have hN2 : (N : Int) + 2 = ((2 * (k + 1) : Nat) : Int) := by have := HNK.out; omega
        clear HO5 HB5
        go_wp2_with fail
        refine ⟨⟨k + 1, 2 * (k + 1), by omega, rfl, by first | go_num | rw [hN2], ⟨_, _, rfl⟩, HN'⟩, ?_⟩
        simp [intOf]; omega
    · have HF : Hid (∃ rs A' c', (Value.slice A3 k c3) = .slice A' rs.length c' ∧ rs.length ≤ 3 ∧ wr.ownsRow w.heap.size 69 2 (.slice A' rs.length c') rs.length (ints (pl rs)) ∧ Below w.heap.size w wr) := ⟨rs, A3, c3, by rw [hrs], by omega, by rw [hrs]; exact hown, hb⟩
      clear hown hb
      by_cases hl1 : N + 1 < n
      · have hl1I : (N : Int) + 1 < (n : Int) := by omega
        have hl2I : ¬ (N : Int) < 6 := by omega
        go_wp2_with fail
        go_ret
        obtain ⟨rs, A', c', e, h⟩ := HF.out
        exact ⟨rs, A', c', congrArg Ending.returned e, h⟩
      · have hl1I : ¬ (N : Int) + 1 < (n : Int) := by omega
        go_wp2_with fail
        go_ret
        obtain ⟨rs, A', c', e, h⟩ := HF.out
        exact ⟨rs, A', c', congrArg Ending.returned e, h⟩

theorem rpath_made (w : World) (lo : Nat) (hlo : lo ≤ w.heap.size) : RPathIn (w.alloc (.cells #[.int .i64 0, .int .i64 0, .int .i64 0, .bool false, .slice none 0 0, .int .i64 0, .int .i64 0, .int .i64 4, .int .i64 32, .int .i64 0, .int .i64 0] 43)) lo w.heap.size Rtt.r0 [] 0 0 ⟨4, 32, 0, 0⟩ := by
  have hh := heap_alloc_new w (.cells #[.int .i64 0, .int .i64 0, .int .i64 0, .bool false, .slice none 0 0, .int .i64 0, .int .i64 0, .int .i64 4, .int .i64 32, .int .i64 0, .int .i64 0] 43)
  exact ⟨⟨_, ⟨hh, rfl, rfl, rfl, rfl⟩, ⟨hlo, hh, by decide, ⟨none, 0, rfl, own_nil _ _ _ _, Nat.le_refl _⟩, rfl, rfl⟩, ⟨hh, rfl, rfl, rfl, rfl⟩⟩, Rtt.good0, ⟨by decide, by decide, by decide, by decide, by decide, by decide⟩, fun x hx => by cases hx⟩

set_option maxRecDepth 100000 in
theorem rnew_path (w : World) :
    Calls Tryz.prog 5 #[] w fun e w' => ∃ p, e = .returned (.pointer (some ⟨p, 0, none⟩)) ∧ RPathIn w' 0 p Rtt.r0 [] 0 0 ⟨4, 32, 0, 0⟩ ∧ w.heap.size ≤ p ∧ Below w.heap.size w w' := by
  go_enter Tryz.func5, Tryz.ntmps5
  go_wp2_with fail
  refine (Cg.rnew_any _).mono ?_; rintro e w1 ⟨rfl, hb1⟩
  go_wp2_with fail
  go_ret
  exact ⟨_, rfl, rpath_made w1 0 (Nat.zero_le _), hb1.size, hb1.alloc hb1.size _⟩
end Go.Proofs.YtebfjphmlggacaaGreat.Pt

namespace Go.Proofs.YtebfjphmlggacaaGreat.Pt
open Go Go.RowKit Go.Proofs.YtebfjphmlggacaaGreat Go.Proofs.YtebfjphmlggacaaGreat.Sp Go.Proofs.YtebfjphmlggacaaGreat.Ld
open Go.Proofs.YtebfjphmlggacaaGreat.Pa (allF selK PathIn elicF SendP)
open Go.Proofs.YtebfjphmlggacaaGreat.Xr (RPathIn RSendP)
open Go.Proofs.YtebfjphmlggacaaGreat.Sq (TwinQ PlQ)

/-- A frame of package frame's texts as a ledger's. -/
theorem fq_of {w : World} {f : Fr} {cs : List Value} (h : FrC w f cs) (hok : OkF f) : ∃ q, cs = fqC q ∧ FqOwn w 0 q ∧ PlQ q ∧ FqOk w q := by
  obtain ⟨A, n, c, A2, n2, c2, rfl, h1, h2, h3, h4⟩ := h
  have hn : n ≤ 120 := by have := hok.data.1; omega
  have hn2 : n2 ≤ 8 := by
    rcases hok.zsp with ⟨_, m, _, hm, hs⟩ | ⟨_, hs⟩
    · have := hs.1
      omega
    · rw [hs] at h2
      simp only [List.length_nil] at h2
      omega
  obtain ⟨_, _, e1, _, _, _, r1⟩ := own_form h3
  obtain ⟨_, _, e2, _, _, _, r2⟩ := own_form h4
  simp only [Value.slice.injEq, true_and] at e1 e2
  obtain ⟨rfl, rfl⟩ := e1
  obtain ⟨rfl, rfl⟩ := e2
  rw [Nat.mul_one] at r1
  refine ⟨⟨f.k, f.id, f.off, f.a, f.b, f.note, f.fin, _, n, _, bv f.data, _, n2, _, ints f.spans⟩, rfl, ⟨h3, h4⟩, Sq.PlQ.of _ f.data f.spans rfl rfl hn2, ⟨r1, fun u hu => ?_, ?_, r2, fun u hu => ?_, ?_⟩⟩
  · obtain ⟨b, _, rfl⟩ := List.mem_map.1 hu
    rfl
  · show n ≤ _; omega
  · obtain ⟨b, _, rfl⟩ := List.mem_map.1 hu
    rfl
  · show n2 ≤ _; omega
theorem fqs_of {w : World} : ∀ {fs : List Fr} {cs : List Value}, FrsC w fs cs → (∀ f ∈ fs, OkF f) → ∃ qs, cs = fqs qs ∧ qs.length = fs.length ∧ ∀ q ∈ qs, FqOwn w 0 q ∧ PlQ q ∧ FqOk w q
  | [], _, h, _ => ⟨[], h, rfl, fun q hq => by cases hq⟩
  | f :: fs, _, ⟨c1, c2, e, h1, h2⟩, hok => by
    obtain ⟨q, e1, hq⟩ := fq_of h1 (hok f (by simp))
    obtain ⟨qs, e2, hl, hqs⟩ := fqs_of h2 fun g hg => hok g (by simp [hg])
    refine ⟨q :: qs, by rw [e, e1, e2]; rfl, by simp [hl], fun x hx => ?_⟩
    rcases List.mem_cons.1 hx with rfl | hx
    · exact hq
    · exact hqs x hx
/-- The hand's Right, as a ledger's frames. -/
theorem right_fqs (K : Nat) (hK : K ≤ 100) (rs : List Rw) (A : Option Addr) (n c : Nat) (w : World) (hr : IsRaws w A c n rs) :
    Calls Tryz.prog 16 #[.slice A n c, .int .i64 (K : Int)] w fun e w' => ∃ A' n' c' qs, e = .returned (.slice A' n' c') ∧ qs.length = n' ∧ n' ≤ K ∧ w'.ownsRow w.heap.size 68 9 (.slice A' n' c') n' (fqs qs) ∧ (∀ q ∈ qs, FqOwn w' 0 q ∧ PlQ q ∧ FqOk w' q) ∧ Below w.heap.size w w' := by
  refine (hright_any K hK rs A n c w hr).mono ?_
  rintro e w' ⟨A', n', c', fs, rfl, hl, hn, hok, ⟨cells, ho, hc⟩, hb⟩
  obtain ⟨qs, rfl, hq, hqs⟩ := fqs_of hc hok
  rw [hl] at ho
  exact ⟨A', n', c', qs, rfl, hq.trans hl, hn, ho, hqs, hb⟩
/-- Both sent. -/
theorem TellI.sent {w wr w1 w2 : World} {p r j m : Nat} {now : Int} {s : Rtt.RS} {kq kr : List (Pk × List Fq)} {next behind : Nat} {wd : Cg.Win} (h : TellI w wr p r j m now s kq kr next behind wd) {qs : List Fq} (hs : SendP wr w.heap.size p s kq next behind wd now qs w1) (hr : RSendP w1 0 r s kr next behind wd now qs w2) (hl : qs.length ≤ 3) (hpl : ∀ q ∈ qs, PlQ q) :
    ∃ kq' kr', TellI w w2 p r (j + 1) m now s kq' kr' (next + 1) behind wd := by
  obtain ⟨k1, qs1, a1, a2, a3, a4, a5, a6, a7⟩ := hs
  obtain ⟨k2, b1, b2, b3, b4, b5⟩ := hr
  have ht : TwinQ qs1 qs := Sq.TwinQ.symm (Sq.TwinQ.of a4.symm a5)
  have htw : TwinK (kq ++ [(k1, qs1)]) (kr ++ [(k2, qs)]) := h.twin.snoc ⟨by rw [b1, a1], by rw [b2, a2], by rw [b3, a3], ht⟩
  have hp1 : ∀ x ∈ kq ++ [(k1, qs1)], ∀ q ∈ x.2, PlQ q := by
    have hk : TwinK [((k1, qs) : Pk × List Fq)] [(k1, qs1)] := ⟨⟨rfl, rfl, rfl, Sq.TwinQ.symm ht⟩, trivial⟩
    intro x hx
    rcases List.mem_append.1 hx with hx | hx
    · exact h.plain x hx
    · exact hk.plain (fun y hy => by obtain rfl := List.mem_singleton.1 hy; exact hpl) x hx
  refine ⟨_, _, h.step a6 a7 b4 b5 htw hp1 (by have := h.nx; omega) (by have := h.bk; omega) (fun x hx => ?_) ?_⟩
  · rcases List.mem_append.1 hx with hx | hx
    · exact h.ats x hx
    · obtain rfl := List.mem_singleton.1 hx
      show 0 ≤ k1.at' ∧ k1.at' ≤ _
      rw [a2]
      exact h.now
  · rw [Pa.allF_app, List.length_append]
    have e : allF [((k1, qs1) : Pk × List Fq)] = qs1 := by simp [Pa.allF]
    rw [e, a4]
    have := h.tot
    omega
theorem sel_tot (f : Pk → Bool) (kq : List (Pk × List Fq)) : (allF (selK f kq)).length ≤ (allF kq).length := Pa.allF_filter _ kq
end Go.Proofs.YtebfjphmlggacaaGreat.Pt
