/- LedgerOnce: the walk. Conditions: as the theorem lists them. -/
import Derived.Test.YtgejakbenldebaaLq
import Derived.Test.YtgejakbenldebaaLr
import Derived.Deep.DeepCutAuto
import Derived.Deep.CutBlock
import Derived.Deep.RegionHeld3
set_option linter.unusedSimpArgs false
set_option linter.unusedVariables false
namespace Go.Proofs.Ytgejakbenldebaa.Ld
open Go Go.RowKit Go.Proofs.Ytgejakbenldebaa Go.Proofs.Ytgejakbenldebaa.Sp

structure Rw where
  q : Int
  a : Int
  b : Int
  c : Int
  el : Bool
  fa : Option Addr
  l : List Int
  fc : Nat
def rwC (r : Rw) : List Value := [.int .i64 r.q, .int .i64 r.a, .int .i64 r.b, .int .i64 r.c, .bool r.el, .slice r.fa r.l.length r.fc]
def RawOk (W : World) (r : Rw) : Prop := Rd W W.heap.size r.fa r.l.length (ints r.l) ∧ r.l.length ≤ r.fc ∧ r.l.length ≤ 4611686018427387904
def RawsIn (W : World) (A : Option Addr) (c n : Nat) (rs : List Rw) : Prop :=
  rs.length = n ∧ n ≤ c ∧ (0 < n → ∃ b off, A = some ⟨b, off, none⟩ ∧ b < W.heap.size ∧ ∀ k r, rs[k]? = some r → RawOk W r ∧ ∀ j u, (rwC r)[j]? = some u → W.cell? ⟨b, off + (k * 6 + j), none⟩ = some u)

theorem els_all' : ∀ l : List Pk, (∀ k ∈ l, k.el = true) → els l = l.length
  | [], _ => rfl
  | k :: r, h => by
    have := els_all' r fun x hx => h x (List.mem_cons_of_mem _ hx)
    unfold els at this ⊢
    rw [List.countP_cons, this, h k (by simp)]
    simp
theorem Part.le {tn : List Nat} {xs ks : List Pk} {next : Nat} (h : Part tn xs ks next) : xs.length ≤ next ∧ ks.length ≤ next := by
  unfold Part at h
  have := h.length_eq
  simp only [List.length_append, List.length_map, List.length_range] at this
  omega
/-- What stands: the ledger, the map, and the packets. -/
structure OnceI (w wr : World) (p mb next behind : Nat) (tn : List Nat) (xs ks : List Pk) (cur : Array Value) : Prop where
  led : Led wr p p 0 25 cur ks next behind
  told : ToldIn wr mb tn
  part : Part tn xs ks next
  ok : ∀ k ∈ ks, k.el = true ∧ 0 ≤ k.at' ∧ k.at' ≤ 1099511627776
  below : Below p w wr
  ne : p < mb
theorem OnceI.keep {w wr w' : World} {p mb next behind : Nat} {tn : List Nat} {xs ks : List Pk} {cur : Array Value} (h : OnceI w wr p mb next behind tn xs ks cur) (hb : Below wr.heap.size wr w') : OnceI w w' p mb next behind tn xs ks cur :=
  ⟨h.led.keep hb, h.told.keep hb, h.part, h.ok, h.below.trans (hb.mono (Nat.le_of_lt h.led.lt.2)), h.ne⟩
/-- A call of the ledger's took some away. -/
theorem OnceI.go {w wr w' : World} {p mb next behind behind' : Nat} {tn : List Nat} {ks : List Pk} {cur cur' : Array Value} (h : OnceI w wr p mb next behind tn [] ks cur) (s : Pk → Bool) (hl : Led w' p p 0 25 cur' (ks.filter fun k => !s k) next behind') (hm : Moved p p wr w') : OnceI w w' p mb next behind' tn (ks.filter s) (ks.filter fun k => !s k) cur' :=
  ⟨hl, h.told.moved hm (Nat.ne_of_gt h.ne), h.part.go s, fun k hk => h.ok k (List.mem_filter.1 hk).1, h.below.trans hm.below, h.ne⟩
theorem Led.map {w w' : World} {lo p o mb : Nat} {T : TypeId} {cur : Array Value} {ks : List Pk} {next behind : Nat} {tn : List Nat} (h : Led w lo p o T cur ks next behind) (ht : ToldIn w mb tn) (hg : w.grownBy w' (some mb)) : Led w' lo p o T cur ks next behind := by
  obtain ⟨es, clock, hm⟩ := ht.isMap
  have hne : ∀ (b : Nat) (cs : Array Value) (t : TypeId), w.heap[b]? = some (Obj.cells cs t (0, 0)) → w'.heap[b]? = w.heap[b]? := fun b cs t hb => hg.block b (lt_of_block hb) (fun e => by
    simp only [Option.some.injEq] at e
    subst e
    rw [hm] at hb
    simp at hb)
  obtain ⟨os, h1, h2⟩ := h.led
  obtain ⟨A, c, e, hr⟩ := h1.row
  exact ⟨os, ⟨h1.hlo, Nat.lt_of_lt_of_le h1.hhi hg.size, Nat.le_refl _, h1.hT, (hne p _ _ h1.hp).trans h1.hp, ⟨A, c, e, hr.mono hg.size fun b _ ⟨cs, t, _, hcs⟩ => hne b cs t hcs⟩, h1.c1, h1.c2, h1.c3, h1.len, h1.nums, h1.beh⟩, h2⟩
theorem OnceI.put {w wr w' : World} {p mb next behind : Nat} {tn : List Nat} {x : Pk} {xs ks : List Pk} {cur : Array Value} (h : OnceI w wr p mb next behind tn (x :: xs) ks cur) (ht : ToldIn w' mb (tn ++ [x.num])) (hg : wr.grownBy w' (some mb)) : OnceI w w' p mb next behind (tn ++ [x.num]) xs ks cur :=
  ⟨h.led.map h.told hg, ht, h.part.step, h.ok, h.below.trans ⟨hg.os, hg.tape, hg.output, hg.size, fun k hk => hg.block k (by have := h.led.lt.2; omega) (fun e => by have := h.ne; simp only [Option.some.injEq] at e; omega)⟩, h.ne⟩
theorem own_map {w w' : World} {mb base e size n : Nat} {v : Value} {xs : List Value} {tn : List Nat} (h : w.ownsRow base e size v n xs) (ht : ToldIn w mb tn) (hg : w.grownBy w' (some mb)) : w'.ownsRow base e size v n xs := by
  obtain ⟨es, clock, hm⟩ := ht.isMap
  refine h.kept hg ?_
  rcases h.2 with ⟨rfl, _⟩ | ⟨g, cap, cur, rfl, _, hh, _⟩
  · exact .inl rfl
  · refine .inr fun e => ?_
    simp only [Value.ownBlock, Option.some.injEq] at e
    subst e
    rw [hm] at hh
    simp at hh
/-- A row of packets that were told. -/
def Row (p : Nat) (wx : World) (v : Value) (L : Nat) (xs : List Pk) : Prop := L = xs.length ∧ xs.Pairwise (fun a b => a.num < b.num) ∧ ∃ base, p < base ∧ base ≤ wx.heap.size ∧ wx.ownsRow base 41 4 v L (pks xs)

/-- Ack, either way. -/
theorem ack_one {w wr : World} {p mb next behind : Nat} {tn : List Nat} {ks : List Pk} {cur : Array Value} (h : OnceI w wr p mb next behind tn [] ks cur) (hn : next ≤ 1099511627776) (rs : List (Int × Int)) (hm : rs.length ≤ 1000000) (A : Option Addr) (c : Nat) (hc : rs.length ≤ c) (hrd : Rd wr wr.heap.size A (rs.length * 2) (ints (pl rs))) :
    Calls Try.prog 6 #[.pointer (some ⟨p, 0, none⟩), .slice A rs.length c] wr fun e w' => ∃ A' L c' e0 xs ks' behind' cur', e = .returned (.tuple #[.slice A' L c', .int .i64 e0]) ∧ (e0 = 0 ∨ (e0 = 2 ∧ L = 0)) ∧ Row p w' (.slice A' L c') L xs ∧ OnceI w w' p mb next behind' tn xs ks' cur' ∧ Moved p p wr w' := by
  refine (ack_led wr p p 0 _ cur ks next behind h.led hn rs hm A c hc hrd).mono ?_
  intro e w' hP
  rcases hP with ⟨_, rfl, hb⟩ | ⟨_, A', L, c', cur', rfl, h1, h2, h3, h4, h5⟩
  · have hk := h.keep hb
    exact ⟨none, 0, 0, 2, [], ks, behind, cur, rfl, .inr ⟨rfl, rfl⟩, ⟨rfl, List.Pairwise.nil, w'.heap.size, hk.led.lt.2, Nat.le_refl _, own_nil _ _ _ _⟩, hk, Moved.of hb (Nat.le_of_lt h.led.lt.2)⟩
  · exact ⟨A', L, c', 0, _, _, _, cur', rfl, .inl rfl, ⟨h1, h.led.rising.1.filter _, wr.heap.size, h.led.lt.2, h5.below.size, h2⟩, h.go _ h3 h5, h5⟩
theorem lose_one {w wr : World} {p mb next behind : Nat} {tn : List Nat} {ks : List Pk} {cur : Array Value} (h : OnceI w wr p mb next behind tn [] ks cur) (hn : next ≤ 1099511627776) (n l : Int) (hnn : -9223372036854775808 ≤ n ∧ n ≤ 9223372036854775807) (hll : -9223372036854775808 ≤ l ∧ l ≤ 9223372036854775807) :
    Calls Try.prog 9 #[.pointer (some ⟨p, 0, none⟩), .int .i64 n, .int .i64 l] wr fun e w' => ∃ A' L c' xs ks' cur', e = .returned (.slice A' L c') ∧ Row p w' (.slice A' L c') L xs ∧ (∀ k ∈ xs, (k.num : Int) < (behind : Int) - 1) ∧ OnceI w w' p mb next behind tn xs ks' cur' := by
  refine (lose_led h.led hn n l (fun k hk => by have := h.ok k hk; omega) hnn hll).mono ?_
  rintro e w' ⟨v, rfl, A', c', cur', rfl, h2, h3, h4, h5⟩
  refine ⟨A', _, c', _, _, cur', rfl, ⟨rfl, h.led.rising.1.filter _, wr.heap.size, h.led.lt.2, h5.below.size, h2⟩, fun k hk => ?_, h.go _ h3 h5⟩
  have := (List.mem_filter.1 hk).2
  simp only [selB, Bool.and_eq_true, decide_eq_true_eq] at this
  exact this.1.2
theorem take_one {w wr : World} {p mb next behind : Nat} {tn : List Nat} {ks : List Pk} {cur : Array Value} (h : OnceI w wr p mb next behind tn [] ks cur) (hn : next ≤ 1099511627776) :
    Calls Try.prog 14 #[.pointer (some ⟨p, 0, none⟩)] wr fun e w' => ∃ A' c' cur', e = .returned (.slice A' ks.length c') ∧ Row p w' (.slice A' ks.length c') ks.length ks ∧ OnceI w w' p mb next behind tn ks [] cur' := by
  refine (take_led h.led hn).mono ?_
  rintro e w' ⟨v, rfl, A', c', cur', rfl, h2, h3, h4, h5⟩
  have hs := sel_all h.led
  have hg := h.go _ h3 h5
  rw [hs.1] at h2 hg
  rw [hs.2] at hg
  exact ⟨A', c', cur', by rw [hs.1], ⟨rfl, h.led.rising.1, wr.heap.size, h.led.lt.2, h5.below.size, h2⟩, hg⟩
theorem put_one {w wr : World} {p mb next behind : Nat} {tn : List Nat} {ks : List Pk} {cur : Array Value} (h : OnceI w wr p mb next behind tn [] ks cur) (m : Nat) (hn : next + m ≤ 1099511627776) (a : Int) (ha : 0 ≤ a ∧ a ≤ 1099511627776) (A : Option Addr) (c base : Nat) (hb : p < base) (ho : wr.ownsRow base 41 4 (.slice A m c) m (pks (sentL next m a))) :
    Calls Try.prog 11 #[.pointer (some ⟨p, 0, none⟩), .slice A m c] wr fun e w' => e = .returned (.tuple #[]) ∧ ∃ ks' cur', OnceI w w' p mb (next + m) behind tn [] ks' cur' ∧ Moved p p wr w' := by
  have hc : m ≤ c := by
    obtain ⟨_, _, e, hc, _⟩ := own_form ho
    simp only [Value.slice.injEq, true_and] at e
    omega
  have hP := put_led wr p p 0 _ cur ks next behind h.led (sentL next m a) (sentL_bare _ _ _) (by rw [sentL_len]; exact hn) A c (by rw [sentL_len]; exact hc) (by rw [sentL_len]; exact rd_moved ho hb)
  rw [sentL_len, put_sentL] at hP
  refine hP.mono ?_
  rintro e w' ⟨rfl, cur', h1, h2, h3⟩
  refine ⟨rfl, _, cur', ⟨h1, h.told.moved h3 (Nat.ne_of_gt h.ne), h.part.put m a, fun k hk => ?_, h.below.trans h3.below, h.ne⟩, h3⟩
  rcases List.mem_append.1 hk with hk | hk
  · exact h.ok k hk
  · have := sentL_mem hk
    exact ⟨this.2.2.2.1, by rw [this.2.2.1]; exact ha.1, by rw [this.2.2.1]; exact ha.2⟩

set_option maxRecDepth 100000 in
set_option maxHeartbeats 16000000 in
theorem once_walk (A : Option Addr) (n c : Nat) (rs : List Rw) (w : World) (h : RawsIn w A c n rs) (hn : n ≤ 1048576) :
    Calls Try.prog 3 #[.slice A n c] w fun e w' => e = .returned (.bool true) ∧ Below w.heap.size w w' := by
  have H := Lib.hid h
  have hnI : (n : Int) ≤ 1048576 := by omega
  have hncI : (n : Int) ≤ (c : Int) := by have := h.2.1; omega
  have hmm := @run_makeMap Try.prog
  clear h
  go_enter Try.func3, Try.ntmps3
  go_wp2_with fail
  obtain ⟨w1, hw1⟩ : ∃ x, w.alloc (.cells #[.slice none 0 0, .int .i64 0, .int .i64 0, .int .i64 0] 25) = x := ⟨_, rfl⟩
  have hl1 := led_new w
  rw [hw1] at hl1 ⊢
  have hb1 : Below w.heap.size w w1 := by rw [← hw1]; exact (Below.refl _ _).alloc (Nat.le_refl _) _
  have hz1 : w1.heap.size = w.heap.size + 1 := by rw [← hw1]; exact World.size_alloc _ _
  clear hw1
  obtain ⟨p, hp⟩ : ∃ x, Hid (w.heap.size = x) := ⟨_, rfl⟩
  obtain ⟨cur, hcur⟩ : ∃ x, #[Value.slice none 0 0, Value.int .i64 0, Value.int .i64 0, Value.int .i64 0] = x := ⟨_, rfl⟩
  rw [hp.out] at hl1 hb1 hz1 ⊢
  rw [hcur] at hl1
  have HZ1 := Lib.hid hz1
  have HL1 := Lib.hid hl1
  have HB1 := Lib.hid hb1
  clear hl1 hb1 hz1 hcur
  obtain ⟨mb, hmb⟩ : ∃ x, Hid (p + 1 = x) := ⟨_, rfl⟩
  obtain ⟨w2, hw2⟩ : ∃ x, w1.alloc (Obj.map #[] 0) = x := ⟨_, rfl⟩
  have HI0 : Hid (OnceI w w2 p mb 0 0 [] [] [] cur) := by
    have hb2 : Below w1.heap.size w1 w2 := by rw [← hw2]; exact (Below.refl _ _).alloc (Nat.le_refl _) _
    have ht : ToldIn w2 mb [] := by
      have := ToldIn.new w1
      rw [hw2, HZ1.out, hmb.out] at this
      exact this
    exact ⟨HL1.out.keep hb2, ht, Part.new, (fun k hk => by cases hk), HB1.out.trans (hb2.mono (Nat.le_of_lt HL1.out.lt.2)), by have := hmb.out; omega⟩
  rw [hw2, hmb.out]
  clear hw2 HL1 HB1 HZ1 hmm
  go_loopw [5, 24] (fun v i wr => ∃ j nw next behind : Nat, v = .int .i64 (nw : Int) ∧ i = .int .i64 (j : Int) ∧ j ≤ n ∧ nw ≤ j ∧ next ≤ 3 * j ∧ Hid (∃ tn ks cur, OnceI w wr p mb next behind tn [] ks cur)) (fun _ i _ => n - (intOf i).toNat)
  case atStart => exact ⟨0, 0, 0, 0, rfl, rfl, Nat.zero_le _, Nat.le_refl _, Nat.le_refl _, [], [], cur, HI0.out⟩
  case round =>
    obtain ⟨j, nw, next, behind, rfl, rfl, hj, hnw, hnx, HK⟩ := hrel
    clear HI0
    obtain ⟨tn, ks, cur1, hK⟩ := HK.out
    clear HK
    have HK := Lib.hid hK
    clear hK
    have hnxI : (next : Int) ≤ 3145728 := by omega
    have hnwI : (nw : Int) ≤ 1048576 := by omega
    have HNX : Hid (next ≤ 1099511627776) := by show _ ≤ _; omega
    by_cases hlt : j < n
    · have hltI : (j : Int) < (n : Int) := by omega
      obtain ⟨b, off, hA, hbl, hcs⟩ := H.out.2.2 (by omega)
      subst hA
      obtain ⟨r, hr⟩ : ∃ r, rs[j]? = some r := ⟨_, List.getElem?_eq_getElem (by rw [H.out.1]; exact hlt)⟩
      obtain ⟨hrok, hrc⟩ := hcs j r hr
      obtain ⟨q, ra, rb, rc, el, fa, l, fc⟩ := r
      have hbw : ∀ o v, w.cell? ⟨b, o, none⟩ = some v → wr.cell? ⟨b, o, none⟩ = some v := fun o v h => (HK.out.below.cell (p := ⟨b, o, none⟩) (by rw [← hp.out]; exact hbl)).trans h
      have c0 : wr.cell? ⟨b, off + j * 6, none⟩ = some (.int .i64 q) := hbw _ _ (hrc 0 _ rfl)
      have c1 : wr.cell? ⟨b, off + j * 6 + 1, none⟩ = some (.int .i64 ra) := hbw _ _ (hrc 1 _ rfl)
      have c2 : wr.cell? ⟨b, off + j * 6 + 2, none⟩ = some (.int .i64 rb) := hbw _ _ (hrc 2 _ rfl)
      have c3 : wr.cell? ⟨b, off + j * 6 + 3, none⟩ = some (.int .i64 rc) := hbw _ _ (hrc 3 _ rfl)
      have c4 : wr.cell? ⟨b, off + j * 6 + 4, none⟩ = some (.bool el) := hbw _ _ (hrc 4 _ rfl)
      have c5 : wr.cell? ⟨b, off + j * 6 + 5, none⟩ = some (.slice fa l.length fc) := hbw _ _ (hrc 5 _ rfl)
      have n0 := World.new_ne wr _ c0
      have HROK : Hid (∀ W, Below p w W → Rd W W.heap.size fa l.length (ints l)) := fun W hW => (hrok.1.below hW (by rw [← hp.out]; exact Nat.le_refl _)).more hW.size
      have HRL : Hid (l.length ≤ fc ∧ l.length ≤ 4611686018427387904) := hrok.2
      clear hcs hrc hbw hr hbl hrok
      go_upto_region 8 with (fail)
      obtain ⟨w3, hw3⟩ : ∃ x, wr.alloc (Obj.cells #[.int .i64 q, .int .i64 ra, .int .i64 rb, .int .i64 rc, .bool el, .slice fa l.length fc] 29) = x := ⟨_, rfl⟩
      rw [hw3]
      obtain ⟨xo, hxo⟩ : ∃ x, Hid (wr.heap.size = x) := ⟨_, rfl⟩
      have hb3 : Below wr.heap.size wr w3 := by rw [← hw3]; exact (Below.refl _ _).alloc (Nat.le_refl _) _
      have hk3 : w3.heap[wr.heap.size]? = some (.cells #[.int .i64 q, .int .i64 ra, .int .i64 rb, .int .i64 rc, .bool el, .slice fa l.length fc] 29 (0, 0)) := by rw [← hw3]; exact heap_alloc_new wr _
      rw [hxo.out] at hk3 ⊢
      have d0 := cell_of_row w3 xo 0 _ _ _ hk3
      have d1 := cell_of_row w3 xo 1 _ _ _ hk3
      have d2 := cell_of_row w3 xo 2 _ _ _ hk3
      have d5 := cell_of_row w3 xo 5 _ _ _ hk3
      simp only [List.getElem?_toArray, List.getElem?_cons_zero, List.getElem?_cons_succ] at d0 d1 d2 d5
      have HPL : Hid (p < wr.heap.size) := HK.out.led.lt.2
      have HK3 := Lib.hid (HK.out.keep hb3)
      have HX3 := Lib.hid hk3
      clear hw3 hb3 hk3 c0 c1 c2 c3 c4 c5 n0 HK
      have HQ := Lib.hid (fun W => pick_any q 5 W (by decide) (by decide))
      have q1a := Int.emod_nonneg q (show (5 : Int) ≠ 0 by decide)
      have q1b := Int.emod_lt_of_pos q (show (0 : Int) < 5 by decide)
      obtain ⟨q5, hq5⟩ : ∃ x, q % 5 = x := ⟨_, rfl⟩
      rw [hq5] at HQ q1a q1b
      clear hq5
      go_wp2_with fail
      refine (HQ.out _).mono ?_; rintro e w' ⟨rfl, rfl⟩
      go_upto_block 2 with (fail)
      have HXP : Hid (xo ≠ p) := by have := HK3.out.led.lt.2; have := lt_of_block HX3.out; have := hxo.out; have := HPL.out; show _ ≠ _; omega
      have HNX3 : Hid (next ≤ 3145728) := by show _ ≤ _; omega
      go_cut [5, 8] (fun vn vs wx => ∃ nw' next' behind' L : Nat, vn = .int .i64 (nw' : Int) ∧ nw' ≤ j + 1 ∧ next' ≤ 3 * (j + 1) ∧ (∃ A8 c8, vs = .slice A8 L c8) ∧ Hid (∃ xs ks' cur', Row p wx vs L xs ∧ OnceI w wx p mb next' behind' tn xs ks' cur'))
      case first =>
        have HNXT : Hid (∀ W, Below w3.heap.size w3 W → Calls Try.prog 8 #[.pointer (some ⟨p, 0, none⟩)] W fun e w' => e = .returned (.int .i64 (next : Int)) ∧ w' = W) := fun W hW => next_led (HK3.out.keep hW).led
        by_cases hq0 : q5 = 0
        · have hq0b : (q5 == 0) = true := by simp [hq0]
          have HS : Hid (∀ W, Below w3.heap.size w3 W → W.cell? ⟨xo, 5, none⟩ = some (.slice fa l.length fc)) := fun W hW => (hW.cell (p := ⟨xo, 5, none⟩) (lt_of_block HX3.out)).trans d5
          have HRUN : Hid (∀ W, Below w3.heap.size w3 W → Calls Try.prog 7 #[.slice fa l.length fc, .int .i64 (next : Int)] W fun e w' => ∃ rs A' c', e = .returned (.slice A' rs.length c') ∧ rs.length ≤ 4 ∧ w'.ownsRow W.heap.size 47 2 (.slice A' rs.length c') rs.length (ints (pl rs)) ∧ Below W.heap.size W w') := fun W hW => runs_any l fa fc next W (HROK.out W (HK3.out.keep hW).below) HRL.out.1 HRL.out.2 HNX.out
          clear hq0
          go_wp2_with fail
          refine wp_region_held_drew (S := fun W => W.cell? ⟨xo, 5, none⟩ = some (.slice fa l.length fc)) (by kernel_rfl) ?_ (fun hHeld => ?_)
          · exact HS.out _ (Below.refl _ _).drew
          refine wpAnyH_take (i := 0) (v := ?_) rfl (by kernel_rfl) (by kernel_rfl) (by kernel_rfl) (fun _ _ _ h => h) (Or.inl ⟨by rfl, ?_⟩) (by assumption) ?_
          rotate_left
          · intro w hSw; (try dsimp only at hSw); go_simp; try with_reducible rfl
          go_simp
          refine wpAnyH_take (i := 1) (v := ?_) rfl (by kernel_rfl) (by kernel_rfl) (by kernel_rfl) (fun _ _ _ h => h) (Or.inl ⟨by rfl, ?_⟩) (by assumption) ?_
          rotate_left
          · intro w hSw; (try dsimp only at hSw); go_simp; try with_reducible rfl
          go_simp
          refine wpAnyH_ready (rs := [2]) (by kernel_rfl) (by simp) ?_
          refine AllReadyH.cons rfl (fun K hK => ?_) AllReadyH.nil
          go_simp
          refine (HNXT.out _ (Below.refl _ _).drew).mono ?_
          rintro e w' ⟨rfl, hw'⟩
          subst hw'
          refine hK.out _ _ ?_ (fun hHeld => ?_)
          · exact HS.out _ (Below.refl _ _).drew
          clear hK K
          go_simp
          refine wpAnyH_ready (rs := [3]) (by kernel_rfl) (by simp) ?_
          refine AllReadyH.cons rfl (fun K hK => ?_) AllReadyH.nil
          go_simp
          refine (HRUN.out _ (Below.refl _ _).drew).mono ?_
          rintro e w4 ⟨rs4, A4, c4, rfl, hl4, ho4, hb4⟩
          have HB4 : Hid (Below w3.heap.size w3 w4) := (Below.refl _ _).drew.trans hb4
          have HO4 := Lib.hid ho4
          have HL4 : Hid (rs4.length ≤ 4) := hl4
          clear ho4 hb4 hl4
          refine hK.out _ _ ?_ (fun hHeld => ?_)
          · exact HS.out _ HB4.out
          clear hK K
          go_simp
          refine wpAnyH_ready (rs := [4]) (by kernel_rfl) (by simp) ?_
          refine AllReadyH.cons rfl (fun K hK => ?_) AllReadyH.nil
          go_simp
          have hfm := own_form HO4.out
          obtain ⟨_, _, e4, hc4, _, _, hrd4⟩ := hfm
          simp only [Value.slice.injEq, true_and] at e4
          obtain ⟨rfl, rfl⟩ := e4
          refine (ack_one (HK3.out.keep HB4.out) HNX.out rs4 (by have := HL4.out; omega) A4 c4 hc4 hrd4).mono ?_
          clear hc4 hrd4
          rintro e w5 ⟨A5, L5, c5, e0, xs5, ks5, bh5, cur5, rfl, he0, hrow5, hI5, hm5⟩
          have HS5 : Hid (w5.cell? ⟨xo, 5, none⟩ = some (.slice fa l.length fc)) := by
            have hx4 := (HB4.out.block xo (lt_of_block HX3.out)).trans HX3.out
            have hx5 := (hm5.kept xo (lt_of_block hx4) HXP.out (fun row e => by rw [hx4] at e; simp at e)).trans hx4
            have := cell_of_row w5 xo 5 _ _ _ hx5
            exact hid_mk (by simpa using this)
          have HF5 : Hid (∃ xs ks' cur', Row p w5 (.slice A5 L5 c5) L5 xs ∧ OnceI w w5 p mb next bh5 tn xs ks' cur') := ⟨xs5, ks5, cur5, hrow5, hI5⟩
          clear hrow5 hI5 hm5
          refine hK.out _ _ ?_ (fun hHeld => ?_)
          · exact HS5.out
          clear hK K
          go_simp
          refine wpAnyH_take (i := 5) (v := ?_) rfl (by kernel_rfl) (by kernel_rfl) (by kernel_rfl) (fun _ _ _ h => h) (Or.inl ⟨by rfl, ?_⟩) (by assumption) ?_
          rotate_left
          · intro w hSw; (try dsimp only at hSw); go_simp; try with_reducible rfl
          go_simp
          refine wpAnyH_take (i := 6) (v := ?_) rfl (by kernel_rfl) (by kernel_rfl) (by kernel_rfl) (fun _ _ _ h => h) (Or.inl ⟨by rfl, ?_⟩) (by assumption) ?_
          rotate_left
          · intro w hSw; (try dsimp only at hSw); go_simp; try with_reducible rfl
          go_simp
          refine wpAnyH_take (i := 7) (v := ?_) rfl (by kernel_rfl) (by kernel_rfl) (by kernel_rfl) (fun _ _ _ h => h) (Or.inl ⟨by rfl, ?_⟩) (by assumption) ?_
          rotate_left
          · intro w hSw; (try dsimp only at hSw); go_simp; try with_reducible rfl
          go_simp
          refine wpAnyH_take (i := 8) (v := ?_) rfl (by kernel_rfl) (by kernel_rfl) (by kernel_rfl) (fun _ _ _ h => h) (Or.inl ⟨by rfl, ?_⟩) (by assumption) ?_
          rotate_left
          · intro w hSw; (try dsimp only at hSw); go_simp; try with_reducible rfl
          go_simp
          refine wpAnyH_take (i := 9) (v := ?_) rfl (by kernel_rfl) (by kernel_rfl) (by kernel_rfl) (fun _ _ _ h => h) (Or.inl ⟨by rfl, ?_⟩) (by assumption) ?_
          rotate_left
          · intro w hSw; (try dsimp only at hSw); go_simp; try with_reducible rfl
          go_simp
          refine wpAnyH_done (by kernel_rfl) ?_ _
          clear HS HNXT HRUN HS5 HB4 HO4 HL4
          rcases he0 with rfl | ⟨rfl, rfl⟩
          · go_wp2_with fail
            go_meet
            case rel => exact ⟨nw, next, bh5, L5, rfl, by omega, by omega, ⟨_, _, rfl⟩, HF5⟩
          · go_wp2_with fail
            go_meet
            case rel => exact ⟨nw, next, bh5, 0, rfl, by omega, by omega, ⟨_, _, rfl⟩, HF5⟩
        · have hq0b : (q5 == 0) = false := by simp [hq0]
          by_cases hq1 : q5 = 1
          · have hq1b : (q5 == 1) = true := by simp [hq1]
            have q6a := Int.emod_nonneg rb (show (6 : Int) ≠ 0 by decide)
            have q6b := Int.emod_lt_of_pos rb (show (0 : Int) < 6 by decide)
            have HP6 := Lib.hid (fun W => pick_any rb 6 W (by decide) (by decide))
            obtain ⟨l6, hl6⟩ : ∃ x, rb % 6 = x := ⟨_, rfl⟩
            rw [hl6] at q6a q6b HP6
            have HLO := Lib.hid (lose_one HK3.out HNX.out (nw : Int) l6 (by omega) (by omega))
            clear hl6 hq1 hq0 HNXT
            go_wp2_with fail
            refine (HP6.out _).mono ?_; rintro e w' ⟨rfl, rfl⟩
            go_wp2_with fail
            refine (HLO.out).mono ?_
            rintro e w5 ⟨A5, L5, c5, xs5, ks5, cur5, rfl, hrow5, hlt5, hI5⟩
            have HR5 := Lib.hid hrow5
            have HLT5 := Lib.hid hlt5
            have HI5 := Lib.hid hI5
            have hL5c : L5 ≤ c5 := by
              obtain ⟨_, _, base, _, _, ho⟩ := hrow5
              obtain ⟨_, _, e, hc, _⟩ := own_form ho
              simp only [Value.slice.injEq, true_and] at e
              omega
            have hL5I : (L5 : Int) ≤ (c5 : Int) := by omega
            have hL5b : (L5 : Int) ≤ 3145728 := by have := hI5.part.le; have := hrow5.1; omega
            clear hrow5 hlt5 hI5 HLO
            go_wp2_with fail
            go_loopw [70] (fun i wx => ∃ k : Nat, i = .int .i64 (k : Int) ∧ k ≤ L5 ∧ Hid (Below w5.heap.size w5 wx)) (fun i _ => L5 - (intOf i).toNat)
            case atStart => exact ⟨0, rfl, Nat.zero_le _, Below.refl _ _⟩
            case round =>
              obtain ⟨k, rfl, hk, HB⟩ := hrel
              by_cases hkl : k < L5
              · have hklI : (k : Int) < (L5 : Int) := by omega
                obtain ⟨hxl, _, base, _, _, ho⟩ := HR5.out
                obtain ⟨_, _, e0, _, _, _, hrd⟩ := own_form (own_below ho HB.out)
                simp only [Value.slice.injEq, true_and] at e0
                obtain ⟨rfl, rfl⟩ := e0
                obtain ⟨b5, off5, hA5, _, hcs5⟩ := hrd.2 (by omega)
                subst hA5
                obtain ⟨x, hx⟩ : ∃ x, xs5[k]? = some x := ⟨_, List.getElem?_eq_getElem (by omega)⟩
                have hxn := HLT5.out x (List.mem_of_getElem? hx)
                have hg := pks_get xs5 k _ hx
                obtain ⟨num, at', el', fa', fn', fc'⟩ := x
                have hxn : (num : Int) < (behind : Int) - 1 := hxn
                have e0 : wr.cell? ⟨b5, off5 + k * 4, none⟩ = some (.int .i64 (num : Int)) := hcs5 (k * 4 + 0) _ (hg 0 (by omega))
                have e1 : wr.cell? ⟨b5, off5 + k * 4 + 1, none⟩ = some (.int .i64 at') := hcs5 (k * 4 + 1) _ (hg 1 (by omega))
                have e2 : wr.cell? ⟨b5, off5 + k * 4 + 2, none⟩ = some (.bool el') := hcs5 (k * 4 + 2) _ (hg 2 (by omega))
                have e3 : wr.cell? ⟨b5, off5 + k * 4 + 3, none⟩ = some (.slice fa' fn' fc') := hcs5 (k * 4 + 3) _ (hg 3 (by omega))
                have n1 := World.new_ne wr _ e0
                clear hg hcs5 hrd ho hxl hx
                go_upto_region 21 with (fail)
                obtain ⟨w8, hw8⟩ : ∃ x, wr.alloc (Obj.cells #[Value.int IntKind.i64 (num : Int), Value.int IntKind.i64 at', Value.bool el', Value.slice fa' fn' fc'] 41) = x := ⟨_, rfl⟩
                rw [hw8]
                have hb8 : Below wr.heap.size wr w8 := by rw [← hw8]; exact (Below.refl _ _).alloc (Nat.le_refl _) _
                have hk8 : w8.heap[wr.heap.size]? = some (.cells #[Value.int IntKind.i64 (num : Int), Value.int IntKind.i64 at', Value.bool el', Value.slice fa' fn' fc'] 41 (0, 0)) := by rw [← hw8]; exact heap_alloc_new wr _
                obtain ⟨bo, hbo⟩ : ∃ x, Hid (wr.heap.size = x) := ⟨_, rfl⟩
                rw [hbo.out] at hk8 ⊢
                have y0 := cell_of_row w8 bo 0 _ _ _ hk8
                simp only [List.getElem?_toArray, List.getElem?_cons_zero, List.getElem?_cons_succ] at y0
                have hb58 : Below w5.heap.size w5 w8 := HB.out.trans (hb8.mono HB.out.size)
                have HACK : Hid (∀ m, Calls Try.prog 10 #[.pointer (some ⟨p, 0, none⟩)] (w8.drewN m) fun e w' => e = .returned (.int .i64 ((behind : Int) - 1)) ∧ w' = w8.drewN m) := fun m => acked_led (HI5.out.keep (hb58.trans (Below.drewN' _ _ _))).led HNX.out
                have hd : decide ((behind : Int) - 1 ≤ (num : Int)) = false := decide_eq_false (by omega)
                have HB8 : Hid (∀ m, Below w5.heap.size w5 (w8.drewN m)) := fun m => hb58.trans (Below.drewN' _ _ _)
                clear hw8 hb8 hk8 hb58 e0 e1 e2 e3 n1 HB
                go_quiet ((go_at_call 10; exact Calls.quiet_of_same (HACK.out _)))
                have HB9 := Lib.hid (HB8.out nq)
                go_wp2_with fail
                refine ⟨⟨k + 1, by go_num, by omega, HB9⟩, ?_⟩
                simp [intOf]; omega
              · have hklI : ¬ (k : Int) < (L5 : Int) := by omega
                have HF5 : Hid (∃ xs ks' cur', Row p wr (.slice A5 L5 c5) L5 xs ∧ OnceI w wr p mb next behind tn xs ks' cur') := by
                  obtain ⟨h1, h2, base, h3, h4, h5⟩ := HR5.out
                  exact ⟨xs5, ks5, cur5, ⟨h1, h2, base, h3, Nat.le_trans h4 HB.out.size, own_below h5 HB.out⟩, HI5.out.keep HB.out⟩
                go_wp2_with fail
                go_meet
                case rel => exact ⟨nw, next, behind, L5, rfl, by omega, by omega, ⟨_, _, rfl⟩, HF5⟩
          · have hq1b : (q5 == 1) = false := by simp [hq1]
            have q3a := Int.emod_nonneg ra (show (3 : Int) ≠ 0 by decide)
            have q3b := Int.emod_lt_of_pos ra (show (0 : Int) < 3 by decide)
            obtain ⟨m0, hm0⟩ : ∃ x : Nat, ra % 3 = (x : Int) := ⟨(ra % 3).toNat, by omega⟩
            have HP3 : Hid (∀ W, Calls Try.prog 5 #[.int .i64 ra, .int .i64 3] W fun e w' => e = .returned (.int .i64 (m0 : Int)) ∧ w' = W) := fun W => by
              have := pick_any ra 3 W (by decide) (by decide)
              rw [hm0] at this
              exact this.mono fun _ _ h => ⟨h.1, h.2.symm⟩
            have hm3 : (m0 : Int) < 3 := by omega
            obtain ⟨M3, hM3⟩ : ∃ x, m0 + 1 = x := ⟨_, rfl⟩
            have HM3 : Hid (M3 ≤ 3) := by show _ ≤ _; omega
            have HS : Hid (∀ W, Below w3.heap.size w3 W → W.cell? ⟨xo, 1, none⟩ = some (.int .i64 ra)) := fun W hW => (hW.cell (p := ⟨xo, 1, none⟩) (lt_of_block HX3.out)).trans d1
            have HSEN : Hid (∀ W, Below w3.heap.size w3 W → Calls Try.prog 12 #[.int .i64 (next : Int), .int .i64 ((next : Int) + 1 + (m0 : Int)), .int .i64 ((nw : Int) + 1)] W fun e w' => ∃ A c, e = .returned (.slice A M3 c) ∧ w'.ownsRow w3.heap.size 41 4 (.slice A M3 c) M3 (pks (sentL next M3 ((nw : Int) + 1))) ∧ Below W.heap.size W w') := fun W hW => by
              refine (sent_any next M3 ((next : Int) + 1 + (m0 : Int)) ((nw : Int) + 1) W (by omega) (by omega)).mono ?_
              rintro e w' ⟨A, c, h1, h2, h3⟩
              exact ⟨A, c, h1, own_base h2 hW.size, h3⟩
            have x1 : IntKind.i64.wrap ((next : Int) + 1) = (next : Int) + 1 := IntWalk.i64_in _ (by omega)
            have x2 : IntKind.i64.wrap ((next : Int) + 1 + (m0 : Int)) = (next : Int) + 1 + (m0 : Int) := IntWalk.i64_in _ (by omega)
            clear hm0 hM3 q3a q3b hq1 hq0
            go_wp2_with fail
            refine wp_region_held_drew (S := fun W => W.cell? ⟨xo, 1, none⟩ = some (.int .i64 ra)) (by kernel_rfl) ?_ (fun hHeld => ?_)
            · exact HS.out _ (Below.refl _ _).drew
            refine wpAnyH_take (i := 3) (v := ?_) rfl (by kernel_rfl) (by kernel_rfl) (by kernel_rfl) (fun _ _ _ h => h) (Or.inl ⟨by rfl, ?_⟩) (by assumption) ?_
            rotate_left
            · intro w hSw; (try dsimp only at hSw); go_simp; try with_reducible rfl
            go_simp
            refine wpAnyH_take (i := 4) (v := ?_) rfl (by kernel_rfl) (by kernel_rfl) (by kernel_rfl) (fun _ _ _ h => h) (Or.inl ⟨by rfl, ?_⟩) (by assumption) ?_
            rotate_left
            · intro w hSw; (try dsimp only at hSw); go_simp; try with_reducible rfl
            go_simp
            refine wpAnyH_take (i := 7) (v := ?_) rfl (by kernel_rfl) (by kernel_rfl) (by kernel_rfl) (fun _ _ _ h => h) (Or.inl ⟨by rfl, ?_⟩) (by assumption) ?_
            rotate_left
            · intro w hSw; (try dsimp only at hSw); go_simp; try with_reducible rfl
            go_simp
            refine wpAnyH_ready (rs := [0]) (by kernel_rfl) (by simp) ?_
            refine AllReadyH.cons rfl (fun K hK => ?_) AllReadyH.nil
            go_simp
            refine (HNXT.out _ (Below.refl _ _).drew).mono ?_
            rintro e w' ⟨rfl, hw'⟩
            subst hw'
            refine hK.out _ _ ?_ (fun hHeld => ?_)
            · exact HS.out _ (Below.refl _ _).drew
            clear hK K
            go_simp
            refine wpAnyH_ready (rs := [1]) (by kernel_rfl) (by simp) ?_
            refine AllReadyH.cons rfl (fun K hK => ?_) AllReadyH.nil
            go_simp
            refine (HNXT.out _ (Below.refl _ _).drew).mono ?_
            rintro e w' ⟨rfl, hw'⟩
            subst hw'
            refine hK.out _ _ ?_ (fun hHeld => ?_)
            · exact HS.out _ (Below.refl _ _).drew
            clear hK K
            go_simp
            refine wpAnyH_take (i := 2) (v := ?_) rfl (by kernel_rfl) (by kernel_rfl) (by kernel_rfl) (fun _ _ _ h => h) (Or.inl ⟨by rfl, ?_⟩) (by assumption) ?_
            rotate_left
            · intro w hSw; (try dsimp only at hSw); go_simp; try with_reducible rfl
            go_simp
            refine wpAnyH_ready (rs := [5]) (by kernel_rfl) (by simp) ?_
            refine AllReadyH.cons rfl (fun K hK => ?_) AllReadyH.nil
            go_simp
            refine (HP3.out _).mono ?_
            rintro e w' ⟨rfl, hw'⟩
            subst hw'
            refine hK.out _ _ ?_ (fun hHeld => ?_)
            · exact HS.out _ (Below.refl _ _).drew
            clear hK K
            go_simp
            refine wpAnyH_take (i := 6) (v := ?_) rfl (by kernel_rfl) (by kernel_rfl) (by kernel_rfl) (fun _ _ _ h => h) (Or.inl ⟨by rfl, ?_⟩) (by assumption) ?_
            rotate_left
            · intro w hSw; (try dsimp only at hSw); go_simp; try with_reducible rfl
            go_simp
            refine wpAnyH_ready (rs := [8]) (by kernel_rfl) (by simp) ?_
            refine AllReadyH.cons rfl (fun K hK => ?_) AllReadyH.nil
            go_simp
            refine (HSEN.out _ (Below.refl _ _).drew).mono ?_
            rintro e w4 ⟨A4, c4, rfl, ho4, hb4⟩
            have HB4 : Hid (Below w3.heap.size w3 w4) := (Below.refl _ _).drew.trans hb4
            have HO4 := Lib.hid ho4
            clear ho4 hb4
            refine hK.out _ _ ?_ (fun hHeld => ?_)
            · exact HS.out _ HB4.out
            clear hK K
            go_simp
            refine wpAnyH_ready (rs := [9]) (by kernel_rfl) (by simp) ?_
            refine AllReadyH.cons rfl (fun K hK => ?_) AllReadyH.nil
            go_simp
            refine (put_one (HK3.out.keep HB4.out) M3 (by have := HNX3.out; have := HM3.out; omega) ((nw : Int) + 1) (by omega) A4 c4 w3.heap.size HK3.out.led.lt.2 HO4.out).mono ?_
            rintro e w5 ⟨rfl, ks5, cur5, hI5, hm5⟩
            have HS5 : Hid (w5.cell? ⟨xo, 1, none⟩ = some (.int .i64 ra)) := by
              have hx4 := (HB4.out.block xo (lt_of_block HX3.out)).trans HX3.out
              have hx5 := (hm5.kept xo (lt_of_block hx4) HXP.out (fun row e => by rw [hx4] at e; simp at e)).trans hx4
              have := cell_of_row w5 xo 1 _ _ _ hx5
              exact hid_mk (by simpa using this)
            have HF5 : Hid (∃ xs ks' cur', Row p w5 (.slice none 0 0) 0 xs ∧ OnceI w w5 p mb (next + M3) behind tn xs ks' cur') := ⟨[], ks5, cur5, ⟨rfl, List.Pairwise.nil, w5.heap.size, hI5.led.lt.2, Nat.le_refl _, own_nil _ _ _ _⟩, hI5⟩
            clear hI5 hm5
            refine hK.out _ _ ?_ (fun hHeld => ?_)
            · exact HS5.out
            clear hK K
            go_simp
            refine wpAnyH_done (by kernel_rfl) ?_ _
            clear HS HNXT HSEN HS5 HB4 HO4
            go_wp2_with fail
            go_meet
            case rel => exact ⟨nw + 1, next + M3, behind, 0, by go_num, by omega, by have := HM3.out; omega, ⟨_, _, rfl⟩, HF5⟩
      case rest =>
        obtain ⟨nw2, next2, bh2, L, rfl, hnw2, hnx2, ⟨A8, c8, rfl⟩, HF⟩ := hcut
        obtain ⟨xs, ks2, cur2, ⟨hxl, hxr, base, hpb, hbz, hown⟩, hI⟩ := HF.out
        clear HF HK3 HX3 d0 d1 d2 d5
        have HXL := Lib.hid hxl
        have HXR := Lib.hid hxr
        have HPB : Hid (p < base) := hpb
        have HO8 := Lib.hid hown
        have HI8 := Lib.hid hI
        have HBZ := Lib.hid hbz
        have hLc : L ≤ c8 := by
          obtain ⟨_, _, e, hc, _⟩ := own_form hown
          simp only [Value.slice.injEq, true_and] at e
          omega
        have hLcI : (L : Int) ≤ (c8 : Int) := by omega
        have hnx2b : next2 ≤ 3145728 := by omega
        have HNX2 := Lib.hid hnx2b
        have hLb : (L : Int) ≤ 3145728 := by have := hI.part.le; omega
        clear hxl hxr hpb hown hI hbz
        go_wp2_with fail
        go_loopw [81] (fun i wx => ∃ k : Nat, i = .int .i64 (k : Int) ∧ k ≤ L ∧ Hid (wx.ownsRow base 41 4 (.slice A8 L c8) L (pks xs) ∧ OnceI w wx p mb next2 bh2 (tn ++ (xs.take k).map (·.num)) (xs.drop k) ks2 cur2)) (fun i _ => L - (intOf i).toNat)
        case atStart => exact ⟨0, rfl, Nat.zero_le _, HO8.out, by simpa using HI8.out⟩
        case round =>
          obtain ⟨k, rfl, hk, HK⟩ := hrel
          clear HO8 HI8
          obtain ⟨ho, hI⟩ := HK.out
          clear HK
          by_cases hkl : k < L
          · have hklI : (k : Int) < (L : Int) := by omega
            obtain ⟨_, _, e0, _, _, _, hrd⟩ := own_form ho
            simp only [Value.slice.injEq, true_and] at e0
            obtain ⟨rfl, rfl⟩ := e0
            obtain ⟨b5, off5, hA5, hb5, hcs5⟩ := hrd.2 (by omega)
            subst hA5
            obtain ⟨x, hx⟩ : ∃ x, xs[k]? = some x := ⟨_, List.getElem?_eq_getElem (by have := HXL.out; omega)⟩
            have hdr := drop_cons hx
            have htk : (xs.take (k + 1)).map (·.num) = (xs.take k).map (·.num) ++ [x.num] := by rw [take_snoc hx]; simp
            rw [hdr] at hI
            have hfr := hI.part.fresh
            have hg := pks_get xs k _ hx
            have hpv : 0 < k → ∃ y : Pk, xs[k - 1]? = some y ∧ y.num < x.num := fun h0 => by
              have h1 : k - 1 < xs.length := by have := HXL.out; omega
              have h2 : k < xs.length := by have := HXL.out; omega
              refine ⟨_, List.getElem?_eq_getElem h1, ?_⟩
              have := (List.pairwise_iff_getElem.1 HXR.out) (k - 1) k h1 h2 (by omega)
              rw [List.getElem?_eq_getElem h2] at hx
              simp only [Option.some.injEq] at hx
              rw [hx] at this
              exact this
            obtain ⟨pv, hpvy⟩ : ∃ pv : Nat, 0 < k → ∃ y : Pk, xs[k - 1]? = some y ∧ y.num = pv ∧ pv < x.num := by
              by_cases h0 : 0 < k
              · obtain ⟨y, hy, hyn⟩ := hpv h0
                exact ⟨y.num, fun _ => ⟨y, hy, rfl, hyn⟩⟩
              · exact ⟨0, fun h => absurd h h0⟩
            obtain ⟨tk, htke⟩ : ∃ y, Hid (tn ++ (xs.take k).map (·.num) = y) := ⟨_, rfl⟩
            rw [htke.out] at hI hfr
            have HTK : Hid (tn ++ (xs.take (k + 1)).map (·.num) = tk ++ [x.num]) := by show _ = _; rw [htk, ← List.append_assoc, htke.out]
            obtain ⟨num, at', el', fa', fn', fc'⟩ := x
            obtain ⟨hf1, hf2, hf3⟩ := hfr
            have hf1 : num ∉ tk := hf1
            have hf2 : num < next2 := hf2
            have hnumb : num ≤ 1099511627776 := by have := HNX2.out; omega
            have HTK : Hid (tn ++ (xs.take (k + 1)).map (·.num) = tk ++ [num]) := HTK.out
            have hpvn : 0 < k → pv < num := fun h => (hpvy h).choose_spec.2.2
            have e0 : wr.cell? ⟨b5, off5 + k * 4, none⟩ = some (.int .i64 (num : Int)) := hcs5 (k * 4 + 0) _ (hg 0 (by omega))
            have e1 : wr.cell? ⟨b5, off5 + k * 4 + 1, none⟩ = some (.int .i64 at') := hcs5 (k * 4 + 1) _ (hg 1 (by omega))
            have e2 : wr.cell? ⟨b5, off5 + k * 4 + 2, none⟩ = some (.bool el') := hcs5 (k * 4 + 2) _ (hg 2 (by omega))
            have e3 : wr.cell? ⟨b5, off5 + k * 4 + 3, none⟩ = some (.slice fa' fn' fc') := hcs5 (k * 4 + 3) _ (hg 3 (by omega))
            have n1 := World.new_ne wr _ e0
            have hnumI : (num : Int) ≤ 1099511627776 := by omega
            clear hg hcs5 hrd hx hpv htk
            go_upto_region 27 with (fail)
            obtain ⟨w8, hw8⟩ : ∃ x, wr.alloc (Obj.cells #[Value.int IntKind.i64 (num : Int), Value.int IntKind.i64 at', Value.bool el', Value.slice fa' fn' fc'] 41) = x := ⟨_, rfl⟩
            rw [hw8]
            have hb8 : Below wr.heap.size wr w8 := by rw [← hw8]; exact (Below.refl _ _).alloc (Nat.le_refl _) _
            have hk8 : w8.heap[wr.heap.size]? = some (.cells #[Value.int IntKind.i64 (num : Int), Value.int IntKind.i64 at', Value.bool el', Value.slice fa' fn' fc'] 41 (0, 0)) := by rw [← hw8]; exact heap_alloc_new wr _
            obtain ⟨bo, hbo⟩ : ∃ x, Hid (wr.heap.size = x) := ⟨_, rfl⟩
            rw [hbo.out] at hk8 ⊢
            have y0 := cell_of_row w8 bo 0 _ _ _ hk8
            simp only [List.getElem?_toArray, List.getElem?_cons_zero, List.getElem?_cons_succ] at y0
            have hI8 := hI.keep hb8
            have hlk := hI8.told.look num hnumb
            rw [if_neg hf1] at hlk
            obtain ⟨w9, hup, ht9, hg9⟩ := hI8.told.put num hnumb hf1 (by omega)
            have hI9 := hI8.put ht9 hg9
            have ho9 := own_map (own_below ho hb8) hI8.told hg9
            obtain ⟨es, clock, hmap⟩ := hI8.told.isMap
            have hk9 : w9.heap[bo]? = w8.heap[bo]? := hg9.block bo (lt_of_block hk8) (fun e => by
              simp only [Option.some.injEq] at e
              rw [e, hmap] at hk8
              simp at hk8)
            have y9 : w9.cell? ⟨bo, 0, none⟩ = some (.int .i64 (num : Int)) := by rw [World.cell?_of_block (w := w8) hk9]; exact y0
            have hlk9 : ∀ m, (Instr.lookup 26 (.map (some mb)) (.int .i64 (num : Int)) false).run Try.prog (w9.drewN m) = .ok (.int .i64 1) (w9.drewN m) := fun m => by
              have := (ht9.keep (Below.drewN' w9 m _)).look num hnumb
              rwa [if_pos (by simp)] at this
            have hpv9 : 0 < k → w9.cell? ⟨b5, off5 + (k - 1) * 4, none⟩ = some (.int .i64 (pv : Int)) := fun h0 => by
              obtain ⟨_, _, e0, _, _, _, hrd⟩ := own_form ho9
              simp only [Value.slice.injEq, true_and] at e0
              obtain ⟨e0, _⟩ := e0
              obtain ⟨b6, off6, hA6, _, hcs6⟩ := hrd.2 (by omega)
              rw [← e0] at hA6
              simp only [Option.some.injEq, Addr.mk.injEq, and_true] at hA6
              obtain ⟨rfl, rfl⟩ := hA6
              obtain ⟨y, hy, hyp, _⟩ := hpvy h0
              have h2 := hcs6 ((k - 1) * 4 + 0) _ (pks_get xs (k - 1) _ hy 0 (by omega))
              rw [← hyp]
              exact h2
            have HI9 := Lib.hid hI9
            have HO9 := Lib.hid ho9
            clear hw8 hb8 hk8 hI8 ht9 hg9 hI9 ho9 hk9 hmap e0 e1 e2 e3 n1 ho hI
            have HPV9 := Lib.hid hpv9
            have HPVN := Lib.hid hpvn
            have HFIN : Hid (∀ m, (w9.drewN m).ownsRow base 41 4 (.slice (some ⟨b5, off5, none⟩) L c8) L (pks xs) ∧ OnceI w (w9.drewN m) p mb next2 bh2 (tn ++ (xs.take (k + 1)).map (·.num)) (xs.drop (k + 1)) ks2 cur2) := fun m => by
              rw [HTK.out]
              exact ⟨own_below HO9.out (Below.drewN' _ _ _), HI9.out.keep (Below.drewN' _ _ _)⟩
            clear hpv9 hpvn hpvy hdr hf1 hf2 hf3 HI9 HO9
            go_wp2_with fail
            rcases Nat.eq_zero_or_pos k with hk0 | hk0
            · have g1 : decide (0 < (k : Int)) = false := decide_eq_false (by omega)
              have g2 : decide (0 < k) = false := decide_eq_false (by omega)
              clear hk0
              go_quiet (fail)
              have HN' := Lib.hid (HFIN.out nq)
              go_wp2_with fail
              refine ⟨⟨k + 1, by go_num, by omega, HN'⟩, ?_⟩
              simp [intOf]; omega
            · have g1 : decide (0 < (k : Int)) = true := decide_eq_true (by omega)
              have g2 : decide (0 < k) = true := decide_eq_true hk0
              obtain ⟨k1, hk1⟩ : ∃ k1, Hid (k = k1 + 1) := ⟨k - 1, by show _ = _; omega⟩
              have hsub : (k : Int) - 1 = (k1 : Int) := by have := hk1.out; omega
              have hk1I : (k1 : Int) < (L : Int) := by omega
              have cpv := HPV9.out hk0
              rw [show k - 1 = k1 by have := hk1.out; omega] at cpv
              have g3 : decide ((num : Int) ≤ (pv : Int)) = false := decide_eq_false (by have := HPVN.out hk0; omega)
              have g4 : decide (num ≤ pv) = false := decide_eq_false (by have := HPVN.out hk0; omega)
              clear hk0
              go_quiet (fail)
              have HN' := Lib.hid (HFIN.out nq)
              go_wp2_with fail
              refine ⟨⟨k + 1, by go_num, by omega, HN'⟩, ?_⟩
              simp [intOf]; omega
          · have hklI : ¬ (k : Int) < (L : Int) := by omega
            obtain rfl : k = L := by omega
            rw [List.take_of_length_le (by rw [HXL.out]; exact Nat.le_refl _), List.drop_of_length_le (by rw [HXL.out]; exact Nat.le_refl _)] at hI
            have HN' : Hid (∃ tn ks cur, OnceI w wr p mb next2 bh2 tn [] ks cur) := ⟨_, _, _, hI⟩
            clear hI ho
            go_wp2_with fail
            refine ⟨⟨j + 1, nw2, next2, bh2, rfl, by go_num, by omega, hnw2, hnx2, HN'⟩, ?_⟩
            simp [intOf]; omega
    · have hltI : ¬ (j : Int) < (n : Int) := by omega
      obtain rfl : j = n := by omega
      have hel : els ks = ks.length := els_all' ks fun k hk => (HK.out.ok k hk).1
      have HFL := Lib.hid (flight_led HK.out.led)
      rw [hel] at HFL
      have HTA := Lib.hid (take_one HK.out HNX)
      have hMn : ks.length ≤ next := HK.out.part.le.2
      obtain ⟨M, hM⟩ : ∃ x, Hid (ks.length = x) := ⟨_, rfl⟩
      rw [hM.out] at HFL HTA hMn
      have hMb : (M : Int) ≤ 3145728 := by omega
      clear hel HK
      go_wp2_with fail
      refine (HFL.out).mono ?_
      rintro e w' ⟨rfl, hw'⟩
      have hw' := hw'.symm
      subst hw'
      go_wp2_with fail
      refine (HTA.out).mono ?_
      rintro e w5 ⟨A8, c8, cur2, rfl, ⟨hxl, hxr, base, hpb, hbz, hown⟩, hI⟩
      have HXL := Lib.hid hxl
      have HO8 := Lib.hid hown
      have HI8 := Lib.hid hI
      have hLc : M ≤ c8 := by
        obtain ⟨_, _, e, hc, _⟩ := own_form hown
        simp only [Value.slice.injEq, true_and] at e
        omega
      have hLcI : (M : Int) ≤ (c8 : Int) := by omega
      have hnx2b : next ≤ 3145728 := by omega
      have HNX2 := Lib.hid hnx2b
      clear hxl hxr hpb hown hI hbz HTA HFL
      go_wp2_with fail
      go_loopw [120] (fun i wx => ∃ k : Nat, i = .int .i64 (k : Int) ∧ k ≤ M ∧ Hid (wx.ownsRow base 41 4 (.slice A8 M c8) M (pks ks) ∧ OnceI w wx p mb next behind (tn ++ (ks.take k).map (·.num)) (ks.drop k) [] cur2)) (fun i _ => M - (intOf i).toNat)
      case atStart => exact ⟨0, rfl, Nat.zero_le _, HO8.out, by simpa using HI8.out⟩
      case round =>
        obtain ⟨k, rfl, hk, HK⟩ := hrel
        clear HO8 HI8
        obtain ⟨ho, hI⟩ := HK.out
        clear HK
        by_cases hkl : k < M
        · have hklI : (k : Int) < (M : Int) := by omega
          obtain ⟨_, _, e0, _, _, _, hrd⟩ := own_form ho
          simp only [Value.slice.injEq, true_and] at e0
          obtain ⟨rfl, rfl⟩ := e0
          obtain ⟨b5, off5, hA5, hb5, hcs5⟩ := hrd.2 (by omega)
          subst hA5
          obtain ⟨x, hx⟩ : ∃ x, ks[k]? = some x := ⟨_, List.getElem?_eq_getElem (by have := HXL.out; omega)⟩
          have hdr := drop_cons hx
          have htk : (ks.take (k + 1)).map (·.num) = (ks.take k).map (·.num) ++ [x.num] := by rw [take_snoc hx]; simp
          rw [hdr] at hI
          have hfr := hI.part.fresh
          have hg := pks_get ks k _ hx
          obtain ⟨tk, htke⟩ : ∃ y, Hid (tn ++ (ks.take k).map (·.num) = y) := ⟨_, rfl⟩
          rw [htke.out] at hI hfr
          have HTK : Hid (tn ++ (ks.take (k + 1)).map (·.num) = tk ++ [x.num]) := by show _ = _; rw [htk, ← List.append_assoc, htke.out]
          obtain ⟨num, at', el', fa', fn', fc'⟩ := x
          obtain ⟨hf1, hf2, hf3⟩ := hfr
          have hf1 : num ∉ tk := hf1
          have hf2 : num < next := hf2
          have hnumb : num ≤ 1099511627776 := by have := HNX2.out; omega
          have HTK : Hid (tn ++ (ks.take (k + 1)).map (·.num) = tk ++ [num]) := HTK.out
          have e0 : wr.cell? ⟨b5, off5 + k * 4, none⟩ = some (.int .i64 (num : Int)) := hcs5 (k * 4 + 0) _ (hg 0 (by omega))
          have e1 : wr.cell? ⟨b5, off5 + k * 4 + 1, none⟩ = some (.int .i64 at') := hcs5 (k * 4 + 1) _ (hg 1 (by omega))
          have e2 : wr.cell? ⟨b5, off5 + k * 4 + 2, none⟩ = some (.bool el') := hcs5 (k * 4 + 2) _ (hg 2 (by omega))
          have e3 : wr.cell? ⟨b5, off5 + k * 4 + 3, none⟩ = some (.slice fa' fn' fc') := hcs5 (k * 4 + 3) _ (hg 3 (by omega))
          have n1 := World.new_ne wr _ e0
          have hnumI : (num : Int) ≤ 1099511627776 := by omega
          clear hg hcs5 hrd hx htk
          go_upto_region 37 with (fail)
          obtain ⟨w8, hw8⟩ : ∃ x, wr.alloc (Obj.cells #[Value.int IntKind.i64 (num : Int), Value.int IntKind.i64 at', Value.bool el', Value.slice fa' fn' fc'] 41) = x := ⟨_, rfl⟩
          rw [hw8]
          have hb8 : Below wr.heap.size wr w8 := by rw [← hw8]; exact (Below.refl _ _).alloc (Nat.le_refl _) _
          have hk8 : w8.heap[wr.heap.size]? = some (.cells #[Value.int IntKind.i64 (num : Int), Value.int IntKind.i64 at', Value.bool el', Value.slice fa' fn' fc'] 41 (0, 0)) := by rw [← hw8]; exact heap_alloc_new wr _
          obtain ⟨bo, hbo⟩ : ∃ x, Hid (wr.heap.size = x) := ⟨_, rfl⟩
          rw [hbo.out] at hk8 ⊢
          have y0 := cell_of_row w8 bo 0 _ _ _ hk8
          simp only [List.getElem?_toArray, List.getElem?_cons_zero, List.getElem?_cons_succ] at y0
          have hI8 := hI.keep hb8
          have hlk := hI8.told.look num hnumb
          rw [if_neg hf1] at hlk
          obtain ⟨w9, hup, ht9, hg9⟩ := hI8.told.put num hnumb hf1 (by omega)
          have hI9 := hI8.put ht9 hg9
          have ho9 := own_map (own_below ho hb8) hI8.told hg9
          have HN' : Hid (w9.ownsRow base 41 4 (.slice (some ⟨b5, off5, none⟩) M c8) M (pks ks) ∧ OnceI w w9 p mb next behind (tn ++ (ks.take (k + 1)).map (·.num)) (ks.drop (k + 1)) [] cur2) := by
            rw [HTK.out]
            exact ⟨ho9, hI9⟩
          clear hw8 hb8 hk8 hI8 ht9 hg9 hI9 ho9 e0 e1 e2 e3 n1 ho hI hdr hf1 hf2 hf3
          go_wp2_with fail
          refine ⟨⟨k + 1, by go_num, by omega, HN'⟩, ?_⟩
          simp [intOf]; omega
        · have hklI : ¬ (k : Int) < (M : Int) := by omega
          obtain rfl : k = M := by omega
          rw [List.take_of_length_le (by rw [HXL.out]; exact Nat.le_refl _), List.drop_of_length_le (by rw [HXL.out]; exact Nat.le_refl _)] at hI
          have hall := hI.part.all
          have HIE := Lib.hid hI
          have HLK : Hid (∀ i, i < next → (Instr.lookup 26 (.map (some mb)) (.int .i64 (i : Int)) false).run Try.prog wr = .ok (.int .i64 1) wr) := fun i hi => by
            have := hI.told.look i (by have := HNX2.out; omega)
            rwa [if_pos (hall.2 i hi)] at this
          have HLN := Lib.hid hall.1
          have HNE := Lib.hid (next_led hI.led)
          clear hI ho hall
          go_wp2_with fail
          go_loopw [19] (fun i wx => ∃ k3 : Nat, i = .int .i64 (k3 : Int) ∧ k3 ≤ next ∧ wx = wr) (fun i _ => next - (intOf i).toNat)
          case atStart => exact ⟨0, rfl, Nat.zero_le _, rfl⟩
          case round =>
            obtain ⟨k3, rfl, hk3, hwx⟩ := hrel
            have hwx := hwx.symm
            subst hwx
            by_cases hk3l : k3 < next
            · have hk3I : (k3 : Int) < (next : Int) := by omega
              have hlk := HLK.out k3 hk3l
              go_wp2_with fail
              refine (HNE.out).mono ?_
              rintro e w' ⟨rfl, hw'⟩
              have hw' := hw'.symm
              subst hw'
              go_wp2_with fail
              refine ⟨⟨k3 + 1, by go_num, by omega, trivial⟩, ?_⟩
              simp [intOf]; omega
            · have hk3I : ¬ (k3 : Int) < (next : Int) := by omega
              go_wp2_with fail
              refine (HNE.out).mono ?_
              rintro e w' ⟨rfl, hw'⟩
              have hw' := hw'.symm
              subst hw'
              go_wp2_with fail
              refine (known_any _).mono ?_
              rintro e w10 ⟨rfl, hb10⟩
              have hI10 := HIE.out.keep hb10
              have hlen10 := fun ty => hI10.told.len ty
              rw [HLN.out] at hlen10
              have HN10 := Lib.hid (next_led hI10.led)
              have HF10 := Lib.hid (flight_led hI10.led)
              have HB10 := Lib.hid hI10.below
              clear hI10 hb10
              have e0 : ((els ([] : List Pk) : Nat) : Int) = 0 := rfl
              rw [e0] at HF10
              go_wp2_with fail
              refine (HN10.out).mono ?_
              rintro e w' ⟨rfl, hw'⟩
              have hw' := hw'.symm
              subst hw'
              go_wp2_with fail
              refine (HF10.out).mono ?_
              rintro e w' ⟨rfl, hw'⟩
              have hw' := hw'.symm
              subst hw'
              go_wp2_with fail
              go_ret
              exact ⟨rfl, by rw [hp.out]; exact HB10.out⟩
end Go.Proofs.Ytgejakbenldebaa.Ld
