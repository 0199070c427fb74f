/- append as one step of a region that draws its order; slices of owned rows. Conditions: as each theorem lists them. -/
import Derived.Test.YtmdmkjkdfagcfaaDoorV1
import Derived.Orders
namespace Go.Proofs.YtmdmkjkdfagcfaaDoor
open Go Go.RowKit

/-- append(s, x...), s a row of the call's own, x whatever slice: one step. -/
theorem step_own {P : Program} {ops : Array Oper} {o : Oper} {a : Act} {w : World} {K : Act → World → Prop} {Q : Exit → Act → World → Prop} {E : Prop}
    (hg : o.guard = none) (s x : Operand) (t : TypeId) (hop : o.op = Op.call { callee := Callee.builtin Builtin.append, args := #[s, x], argTypes := #[t, t] })
    (base : Nat) (e : TypeId) (i : TypeInfo) (z : Value) (bytes : Nat) (ht : P.underlying t = some (.slice e)) (hi : P.info? e = some i) (hz : i.zero = some z) (hsize : i.size = 1) (hby : i.bytes = bytes) (hzs : z.cells.size = 1)
    (v : Value) (n : Nat) (xs : List Value) (hs : a.eval s = v) (hown : w.ownsRow base e 1 v n xs) (B : Nat) (A : Option Addr) (m c : Nat) (news : List Value) (hxv : a.eval x = .slice A m c) (hx : Rd w B A m news) (h1 : ∀ u ∈ news, u.oneCell' = true)
    (h63 : n + m ≤ maxLen) (hbytes : (n + m) * bytes ≤ 140737488355328) (hbase : base ≤ w.heap.size)
    (h : ∀ v' w', w'.ownsRow base e 1 v' (n + m) (xs ++ news) → w.grownBy w' v.ownBlock → K (a.put o.dst v') w') :
    if Region.wanted o (yielded ops a.tmps) = true then Oper.wp P o a w K Q else E := by
  have hw : Region.wanted o (yielded ops a.tmps) = true := by simp [Region.wanted, hg]
  rw [if_pos hw]
  obtain ⟨v', w', hr, h2, h3⟩ := app_any (P := P) w base t o.type e i z bytes ht hi hz hsize hby hzs v n xs hown B A m c news hx h1 h63 hbytes hbase
  unfold Oper.wp execOp
  simp only [hop, resolve, invoke, builtin, Sem.run_bind, Sem.run_pure, Result.andThen_ok, List.map_toArray, List.map_cons, List.map_nil, hs, hxv, hr, Oper.upon_value]
  exact h v' w' h2 h3

/-- A new block is a row of the call's own. -/
theorem own_new (w : World) (cur : Array Value) (t : TypeId) (k b base : Nat) (hb : b = w.heap.size) (hk : cur.size = k) (hm : k ≤ maxLen) (hbase : base ≤ w.heap.size) :
    (w.alloc (.cells cur t)).ownsRow base t 1 (.slice (some ⟨b, 0, none⟩) k k) k cur.toList := by
  subst hb
  subst hk
  exact ⟨by rw [Array.length_toList, Nat.mul_one], .inr ⟨w.heap.size, cur.size, cur, rfl, hbase, heap_alloc_new w _, Nat.le_refl _, hm, (Nat.mul_one _).symm, by rw [Nat.mul_one]; exact List.take_of_length_le (by rw [Array.length_toList]; exact Nat.le_refl _)⟩⟩

theorem ones_ints (l : List Int) : ones (ints l) := fun u hu => by
  simp only [ints, List.mem_map] at hu
  obtain ⟨n, _, rfl⟩ := hu
  rfl
theorem ints_take (l : List Int) (k : Nat) : (ints l).take k = ints (l.take k) := by simp [ints]
theorem ints_drop (l : List Int) (k : Nat) : (ints l).drop k = ints (l.drop k) := by simp [ints]

theorem Rd.head {w : World} {B n : Nat} {A : Option Addr} {xs : List Value} (h : Rd w B A n xs) (k : Nat) (hk : k ≤ n) : Rd w B A k (xs.take k) := by
  refine ⟨by rw [List.length_take, h.1]; omega, fun h0 => ?_⟩
  obtain ⟨b, off, e, hlt, hc⟩ := h.2 (by omega)
  refine ⟨b, off, e, hlt, fun j u hu => hc j u ?_⟩
  rw [List.getElem?_take] at hu
  split at hu
  · exact hu
  · cases hu
/-- So many that are not there. -/
theorem takes_no (bs : List Nat) (A : Option Addr) (cap : Nat) (count : Nat) (w : World) (h0 : 0 < count) (hd : decs count bs = none) (hc8 : count * 8 ≤ 140737488355328) (hx : Rd w w.heap.size A bs.length (bv bs)) (hb : ∀ c ∈ bs, c < 256) (hn : bs.length ≤ cap) (hm : bs.length ≤ 140737488355328) :
    Calls Tryd.prog 10 #[.slice A bs.length cap, .int .i64 (count : Int)] w fun e w' => e = .returned (.tuple #[.slice none 0 0, .slice none 0 0, .int .i64 3]) ∧ Below w.heap.size w w' := by
  by_cases h : bs.length < count
  · refine (takes_few bs A cap count w (by omega)).mono ?_
    rintro e w' ⟨rfl, rfl⟩
    exact ⟨rfl, Below.refl _ _⟩
  · refine (takes_any bs A cap count w h0 (by omega) hc8 hx hb hn hm).mono ?_
    rintro e w' (⟨_, rfl, h⟩ | ⟨l, r, v, v', h, _⟩)
    · exact ⟨rfl, h⟩
    · rw [hd] at h; cases h
end Go.Proofs.YtmdmkjkdfagcfaaDoor
