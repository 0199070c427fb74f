/- known of chapter 16: a walk over the contracts; the queue in a law. Conditions: none. -/
import Derived.Test.YtlaopkkfgkcejaaJQh
set_option linter.unusedSimpArgs false
set_option linter.unusedVariables false

namespace Go.Proofs.Ytlaopkkfgkcejaa.Qu
open Go Go.RowKit Go.Proofs.Ytlaopkkfgkcejaa

/-- A law's queue: what waits in it, as it says; all of it lies in new memory. -/
def LQ (w0 wr : World) (p lo : Nat) (ds : List (Int × List Nat)) : Prop := ∃ ks : List It, ks.map dat = ds ∧ QIn wr p lo ks ∧ Below w0.heap.size w0 wr ∧ w0.heap.size ≤ p ∧ lo ≤ wr.heap.size
section
variable {w0 wr w' : World} {p lo : Nat} {ds : List (Int × List Nat)}
theorem LQ.bel (h : LQ w0 wr p lo ds) : Below w0.heap.size w0 wr := by obtain ⟨_, _, _, h, _, _⟩ := h; exact h
theorem LQ.lt (h : LQ w0 wr p lo ds) : p < wr.heap.size := by obtain ⟨_, _, h, _⟩ := h; exact h.lt
theorem LQ.ge (h : LQ w0 wr p lo ds) : w0.heap.size ≤ p := by obtain ⟨_, _, _, _, h, _⟩ := h; exact h
theorem LQ.low (h : LQ w0 wr p lo ds) : lo ≤ wr.heap.size := by obtain ⟨_, _, _, _, _, h⟩ := h; exact h
theorem LQ.plo (h : LQ w0 wr p lo ds) : p < lo := by obtain ⟨_, _, h, _⟩ := h; exact h.plo
theorem LQ.raise {lo' : Nat} (h : LQ w0 wr p lo []) (h1 : lo ≤ lo') (h2 : lo' ≤ wr.heap.size) : LQ w0 wr p lo' [] := by
  obtain ⟨ks, e, hq, h3, h4, _⟩ := h
  obtain rfl : ks = [] := by simpa using e
  exact ⟨[], rfl, ⟨hq.cells, hq.num, hq.room, Nat.lt_of_lt_of_le hq.plo h1, hq.lt, hq.le, fun q hq => by cases hq⟩, h3, h4, h2⟩
theorem LQ.le (h : LQ w0 wr p lo ds) : ds.length ≤ 32 := by obtain ⟨ks, rfl, h, _⟩ := h; rw [List.length_map]; exact h.le
theorem LQ.below (h : LQ w0 wr p lo ds) (hb : Below wr.heap.size wr w') : LQ w0 w' p lo ds := by
  obtain ⟨ks, h1, h2, h3, h4, hz⟩ := h
  exact ⟨ks, h1, h2.below hb, h3.trans (hb.mono h3.size), h4, Nat.le_trans hz hb.size⟩
/-- Is its note not among these? -/
def keepD (l : List Int) (d : Int × List Nat) : Bool := !decide (d.1 ∈ l)
theorem map_keeps (l : List Int) (ks : List It) : (ks.filter (keeps l)).map dat = (ks.map dat).filter (keepD l) := by
  rw [List.filter_map]; rfl

theorem put_lq (h : LQ w0 wr p lo ds) (qs : List It) (n c : Nat) (A : Option Addr) (hA : At wr (p + 1) A (n * 2) (its qs)) (hc : n ≤ c) (hn : n ≤ 1000000) (hqs : ∀ q ∈ qs, ItOk wr (p + 1) q ∧ q.n ≤ 1000000) :
    Calls Try.prog 7 #[.pointer (some ⟨p, 0, none⟩), .slice A n c] wr fun e w' => e = .returned (.int .i64 ((putD ds.length (qs.map dat)).length : Int)) ∧ LQ w0 w' p lo (ds ++ putD ds.length (qs.map dat)) ∧ wr.grownBy w' (some p) := by
  obtain ⟨ks, rfl, h2, h3, h4, hz⟩ := h
  refine (put_any h2 hz qs n c A hA hc hn hqs).mono ?_
  rintro e w' ⟨new, rfl, h5, h6, h7⟩
  rw [List.length_map]
  refine ⟨by rw [← h7, List.length_map], ⟨ks ++ new, by rw [List.map_append, h7], h5, h3.trans (below_of_grown h6 h3.size h4), h4, Nat.le_trans hz h6.size⟩, h6⟩
theorem drop_lq (h : LQ w0 wr p lo ds) (l : List Int) (m c : Nat) (B : Option Addr) (hA : At wr (p + 1) B m (ints l)) (hc : m ≤ c) (hm : m ≤ 1000000) :
    Calls Try.prog 9 #[.pointer (some ⟨p, 0, none⟩), .slice B m c] wr fun e w' => e = .returned (.int .i64 ((ds.length : Int) - ((ds.filter (keepD l)).length : Int))) ∧ LQ w0 w' p lo (ds.filter (keepD l)) ∧ wr.grownBy w' (some p) := by
  obtain ⟨ks, rfl, h2, h3, h4, hz⟩ := h
  refine (drop_any h2 l m c B hA hc hm).mono ?_
  rintro e w' ⟨rfl, h5, h6⟩
  rw [← map_keeps, List.length_map, List.length_map]
  exact ⟨rfl, ⟨_, rfl, h5, h3.trans (below_of_grown h6 h3.size h4), h4, Nat.le_trans hz h6.size⟩, h6⟩
theorem len_lq (h : LQ w0 wr p lo ds) : Calls Try.prog 8 #[.pointer (some ⟨p, 0, none⟩)] wr fun e w' => e = .returned (.int .i64 (ds.length : Int)) ∧ w' = wr := by
  obtain ⟨ks, rfl, h2, h3, h4, hz⟩ := h
  rw [List.length_map]
  exact len_any h2 h2.le
theorem first_nil (h : LQ w0 wr p lo []) : Calls Try.prog 11 #[.pointer (some ⟨p, 0, none⟩)] wr fun e w' => e = .returned (.tuple #[.agg #[.int .i64 0, .slice none 0 0], .bool false]) ∧ LQ w0 w' p lo [] ∧ Below wr.heap.size wr w' := by
  obtain ⟨ks, h1, h2, h3, h4, hz⟩ := h
  obtain rfl : ks = [] := by simpa using h1
  refine (first_none h2).mono ?_
  rintro e w' ⟨rfl, hb⟩
  exact ⟨rfl, ⟨[], rfl, h2.below hb, h3.trans (hb.mono h3.size), h4, Nat.le_trans hz hb.size⟩, hb⟩
theorem pop_nil (h : LQ w0 wr p lo []) : Calls Try.prog 10 #[.pointer (some ⟨p, 0, none⟩)] wr fun e w' => e = .returned (.tuple #[.agg #[.int .i64 0, .slice none 0 0], .bool false]) ∧ LQ w0 w' p lo [] ∧ Below wr.heap.size wr w' := by
  obtain ⟨ks, h1, h2, h3, h4, hz⟩ := h
  obtain rfl : ks = [] := by simpa using h1
  refine (pop_none h2).mono ?_
  rintro e w' ⟨rfl, hb⟩
  exact ⟨rfl, ⟨[], rfl, h2.below hb, h3.trans (hb.mono h3.size), h4, Nat.le_trans hz hb.size⟩, hb⟩
theorem first_cons {d : Int × List Nat} (h : LQ w0 wr p lo (d :: ds)) : Calls Try.prog 11 #[.pointer (some ⟨p, 0, none⟩)] wr fun e w' => ∃ q : It, e = .returned (.tuple #[.agg #[.int .i64 q.k, .slice q.A q.n q.c], .bool true]) ∧ dat q = d ∧ ItOk w' wr.heap.size q ∧ LQ w0 w' p lo (d :: ds) ∧ Below wr.heap.size wr w' := by
  obtain ⟨ks, h1, h2, h3, h4, hz⟩ := h
  cases ks with
  | nil => simp at h1
  | cons k ks =>
    simp only [List.map_cons, List.cons.injEq] at h1
    obtain ⟨rfl, rfl⟩ := h1
    refine (first_some h2).mono ?_
    rintro e w' ⟨q, rfl, h5, h6, hb⟩
    exact ⟨q, rfl, h5, h6, ⟨k :: ks, rfl, h2.below hb, h3.trans (hb.mono h3.size), h4, Nat.le_trans hz hb.size⟩, hb⟩
theorem pop_cons {d : Int × List Nat} (h : LQ w0 wr p lo (d :: ds)) : Calls Try.prog 10 #[.pointer (some ⟨p, 0, none⟩)] wr fun e w' => ∃ q : It, e = .returned (.tuple #[.agg #[.int .i64 q.k, .slice q.A q.n q.c], .bool true]) ∧ dat q = d ∧ ItOk w' wr.heap.size q ∧ LQ w0 w' p lo ds ∧ wr.grownBy w' (some p) := by
  obtain ⟨ks, h1, h2, h3, h4, hz⟩ := h
  cases ks with
  | nil => simp at h1
  | cons k ks =>
    simp only [List.map_cons, List.cons.injEq] at h1
    obtain ⟨rfl, rfl⟩ := h1
    refine (pop_some h2).mono ?_
    rintro e w' ⟨q, rfl, h5, h6, h7, h8⟩
    exact ⟨q, rfl, h5, h6, ⟨ks, rfl, h7, h3.trans (below_of_grown h8 h3.size h4), h4, Nat.le_trans hz h8.size⟩, h8⟩
end

/-- The cells of an empty queue. -/
def zeroQ : Array Value := #[.int .i64 0, .slice none 0 0, .int .i64 0, .slice none 0 0, .int .i64 0, .slice none 0 0, .int .i64 0, .slice none 0 0, .int .i64 0, .slice none 0 0, .int .i64 0, .slice none 0 0, .int .i64 0, .slice none 0 0, .int .i64 0, .slice none 0 0, .int .i64 0, .slice none 0 0, .int .i64 0, .slice none 0 0, .int .i64 0, .slice none 0 0, .int .i64 0, .slice none 0 0, .int .i64 0, .slice none 0 0, .int .i64 0, .slice none 0 0, .int .i64 0, .slice none 0 0, .int .i64 0, .slice none 0 0, .int .i64 0, .slice none 0 0, .int .i64 0, .slice none 0 0, .int .i64 0, .slice none 0 0, .int .i64 0, .slice none 0 0, .int .i64 0, .slice none 0 0, .int .i64 0, .slice none 0 0, .int .i64 0, .slice none 0 0, .int .i64 0, .slice none 0 0, .int .i64 0, .slice none 0 0, .int .i64 0, .slice none 0 0, .int .i64 0, .slice none 0 0, .int .i64 0, .slice none 0 0, .int .i64 0, .slice none 0 0, .int .i64 0, .slice none 0 0, .int .i64 0, .slice none 0 0, .int .i64 0, .slice none 0 0, .int .i64 0]
theorem new_lq {w0 w : World} (hb : Below w0.heap.size w0 w) : LQ w0 (w.alloc (.cells zeroQ 27)) w.heap.size (w.heap.size + 1) [] := by
  have hh : (w.alloc (.cells zeroQ 27)).heap[w.heap.size]? = some (.cells zeroQ 27 (0, 0)) := heap_alloc_new w _
  refine ⟨[], rfl, ⟨fun j u hu => by simp [its] at hu, ?_, fun j hj => ?_, Nat.lt_succ_self _, by simp, Nat.zero_le _, fun q hq => by cases hq⟩, hb.alloc hb.size _, hb.size, by simp⟩
  · rw [Am.cell_of _ _ _ _ _ _ hh]; rfl
  · refine ⟨?_, ?_⟩
    · rw [Am.cell_of _ _ _ _ _ _ hh, Array.getElem?_eq_getElem (show j < zeroQ.size from hj)]
      rfl
    · simp only [World.frozen?, hh]; simp

theorem infoQ : (Try.prog.info? 27).map (fun i => (i.zero, i.size)) = some (some (.agg zeroQ), 65) := by kernel_rfl
theorem zero_q (w : World) : (zeroValue 27).run Try.prog w = .ok (.agg zeroQ) w := by
  obtain ⟨i, hi, e⟩ := Option.map_eq_some_iff.1 infoQ
  simp only [Prod.mk.injEq] at e
  simp [zeroValue, typeInfo, hi, e.1]
/-- q := queue.Queue{}: three operations at once. -/
theorem wpList_queue_new {ops : Array Oper} {rest : List Oper} {o1 o2 o3 : Oper} {a : Act} {w : World} {Q : Exit → Act → World → Prop} (x1 x2 : Tmp) (g1 : o1.guard = none) (g2 : o2.guard = none) (g3 : o3.guard = none)
    (h1 : o1.op = .build 27 #[]) (d1 : o1.dst = some x1) (h2 : o2.op = .alloc 27) (d2 : o2.dst = some x2) (h3 : o3.op = .store 27 (.tmp x2) (.tmp x1)) (d3 : o3.dst = none)
    (e1 : ∀ v u, ((a.put (some x1) v).put (some x2) u).eval (.tmp x1) = v) (e2 : ∀ v u, ((a.put (some x1) v).put (some x2) u).eval (.tmp x2) = u)
    (h : wpList Try.prog ops Q rest ((a.put (some x1) (.agg zeroQ)).put (some x2) (.pointer (some ⟨w.heap.size, 0, none⟩))) (w.alloc (.cells zeroQ 27))) : wpList Try.prog ops Q (o1 :: o2 :: o3 :: rest) a w := by
  have hi : (Try.prog.info? 27).map (·.size) = some zeroQ.size := by
    obtain ⟨i, hi, e⟩ := Option.map_eq_some_iff.1 infoQ
    simp only [Prod.mk.injEq] at e
    rw [hi]; show some i.size = _; rw [e.2]; rfl
  refine wpList_plain g1 fun K hK => ?_
  unfold Oper.wp execOp
  simp only [h1]
  go_simp
  simp only [zero_q, Result.andThen_ok, Oper.upon_value, d1]
  refine hK _ _ (wpList_plain g2 fun K2 hK2 => ?_)
  unfold Oper.wp execOp
  simp only [h2]
  go_simp
  simp only [zero_q, Result.andThen_ok, Value.cells, Oper.upon_value, d2]
  refine hK2 _ _ (wpList_store_row g3 27 (.tmp x2) (.tmp x1) h3 w.heap.size zeroQ (e2 _ _) (e1 _ _) 27 zeroQ (heap_alloc_new w _) hi rfl (by kernel_rfl) ?_)
  rw [setRow_self _ _ _ _ _ (heap_alloc_new w _), d3]
  exact h

/-- A new block is cells that lie there. -/
theorem at_new (w : World) (cur : Array Value) (t : TypeId) (lo b n : Nat) (xs : List Value) (hb : b = w.heap.size) (hlo : lo ≤ b) (hn : cur.size = n) (hx : cur.toList = xs) : At (w.alloc (.cells cur t)) lo (some ⟨b, 0, none⟩) n xs := by
  subst hb; subst hn; subst hx
  refine ⟨by simp, fun _ => ⟨w.heap.size, 0, rfl, hlo, by simp, fun j u hu => ?_⟩⟩
  rw [Nat.zero_add, Am.cell_of _ _ _ _ _ _ (heap_alloc_new w _)]
  simpa using hu
theorem At.alloc {w : World} {lo n : Nat} {A : Option Addr} {xs : List Value} (h : At w lo A n xs) (o : Obj) : At (w.alloc o) lo A n xs := h.below ((Below.refl _ _).alloc (Nat.le_refl _) _)
theorem LQ.alloc {w0 wr : World} {p lo : Nat} {ds : List (Int × List Nat)} (h : LQ w0 wr p lo ds) (o : Obj) : LQ w0 (wr.alloc o) p lo ds := h.below ((Below.refl _ _).alloc (Nat.le_refl _) _)

set_option maxRecDepth 100000 in
set_option maxHeartbeats 4000000 in
theorem known_any (w : World) : Calls Try.prog 12 #[] w fun e w' => e = .returned (.bool true) ∧ Below w.heap.size w w' := by
  have HQ0 := Lib.hid (new_lq (Below.refl w.heap.size w))
  go_enter Try.func12, Try.ntmps12
  go_wp2_with (refine wpList_queue_new 6 1 rfl rfl rfl rfl rfl rfl rfl rfl rfl (fun _ _ => rfl) (fun _ _ => rfl) ?_)
  go_at_call 7
  refine (put_lq (((HQ0.out.alloc _).alloc _).alloc _) [⟨4, some ⟨w.heap.size + 1, 0, none⟩, 1, 1, [1]⟩, ⟨5, some ⟨w.heap.size + 1 + 1, 0, none⟩, 1, 1, [2]⟩] 2 2 _ (at_new _ _ _ _ _ _ _ (by simp) (by omega) rfl rfl) (Nat.le_refl _) (by omega) ?_).mono ?_
  · intro q hq
    simp only [List.mem_cons, List.not_mem_nil, or_false] at hq
    rcases hq with rfl | rfl
    · exact ⟨⟨((at_new _ _ _ _ _ _ _ (by simp) (by omega) rfl rfl).alloc _).alloc _, Nat.le_refl _, by simp⟩, by simp⟩
    · exact ⟨⟨(at_new _ _ _ _ _ _ _ (by simp) (by omega) rfl rfl).alloc _, Nat.le_refl _, by simp⟩, by simp⟩
  rintro e w5 ⟨rfl, hq5, hg5⟩
  have HQ5 : Hid (LQ w w5 w.heap.size (w.heap.size + 1) [(4, [1]), (5, [2])]) := hq5
  have e5 : ((putD ([] : List (Int × List Nat)).length ([(⟨4, some ⟨w.heap.size + 1, 0, none⟩, 1, 1, [1]⟩ : It), ⟨5, some ⟨w.heap.size + 1 + 1, 0, none⟩, 1, 1, [2]⟩].map dat)).length : Int) = 2 := rfl
  rw [e5]
  clear hq5 hg5 e5
  go_wp2_with fail
  go_at_call 9
  refine (drop_lq (HQ5.out.alloc _) [4] 1 1 _ (at_new _ _ _ _ _ _ _ rfl HQ5.out.lt rfl rfl) (Nat.le_refl _) (by omega)).mono ?_
  rintro e w6 ⟨rfl, hq6, _⟩
  have HQ6 : Hid (LQ w w6 w.heap.size (w.heap.size + 1) [(5, [2])]) := hq6
  have e6 : ((([(4, [1]), (5, [2])] : List (Int × List Nat)).length : Int) - ((([(4, [1]), (5, [2])] : List (Int × List Nat)).filter (keepD [4])).length : Int)) = 1 := rfl
  rw [e6]
  clear hq6 e6
  go_wp2_with fail
  go_at_call 11
  refine (first_cons HQ6.out).mono ?_
  rintro e w7 ⟨⟨k7, A7, n7, c7, bs7⟩, rfl, hd7, _, hq7, _⟩
  obtain ⟨rfl, rfl⟩ : k7 = 5 ∧ bs7 = [2] := by simpa [dat] using hd7
  have HQ7 := Lib.hid hq7
  clear hq7 hd7
  go_wp2_with fail
  go_at_call 8
  refine (len_lq (HQ7.out.alloc _)).mono ?_
  rintro e w8 ⟨rfl, rfl⟩
  go_wp2_with fail
  go_ret
  exact ⟨rfl, (HQ7.out.alloc _).bel⟩
end Go.Proofs.Ytlaopkkfgkcejaa.Qu
