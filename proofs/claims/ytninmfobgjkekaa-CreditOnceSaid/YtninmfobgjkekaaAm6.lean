/- len, cap, append, bytes as a string, a comparison with nil, over the abstract memory, and that the model's operations do the same. Conditions: as each theorem lists them. -/
import Derived.Test.YtninmfobgjkekaaAm5
set_option linter.unusedSimpArgs false
set_option linter.unusedVariables false
namespace Go.Am
open Go Go.RowKit

variable {P : Program} {G : Nat} {w0 w : World} {c : Ctx} {g : Gh} {S S' : St} {a ac : Act} {o : Oper} {v : Value}

/-- A call of a builtin function. -/
theorem builtin_done {b : Builtin} {args : Array Operand} {ts : Array TypeId} (ho : o.op = .call { callee := .builtin b, args := args, argTypes := ts }) {s : Sem Value} {w' : World} {c' : Ctx} {g' : Gh} {u : Value}
    (hs : ∀ cs : Array Bool, builtin b ts o.type cs (args.map ac.eval) = (do pure (.value (← s)))) (hr : s.run P w = .ok u w') (hc : c.le c') (hR : Rel G w0 c' g' S' w') (hv : VR c' v u) : Done P G w0 ac o c w v S' := by
  refine done_value (s := s) ?_ hr hc hR hv
  simp only [execOp, ho, resolve, invoke]
  exact hs _

theorem arg_ev (h : Pre G w0 c g S w a ac o) {b : Builtin} {args : Array Operand} {ts : Array TypeId} (ho : o.op = .call { callee := .builtin b, args := args, argTypes := ts }) {x : Operand} (hx : x ∈ args) : VR c (a.eval x) (ac.eval x) :=
  h.ev (by simp [ho, Op.operands, Call.operands, hx])

def lenA (P : Program) (t : TypeId) (x : Value) : Option Value :=
  match P.underlying t, x with
  | some (.slice _), .slice _ n _ => some (goInt n)
  | some (.array n _), _ => some (goInt n)
  | some (.pointer e), _ => match P.underlying e with
    | some (.array n _) => some (goInt n)
    | _ => none
  | _, _ => none

theorem len_done (h : Pre G w0 c g S w a ac o) (x : Operand) (t : TypeId) (ho : o.op = .call { callee := .builtin .len, args := #[x], argTypes := #[t] }) (hv : lenA P t (a.eval x) = some v) : Done P G w0 ac o c w v S := by
  have hc := arg_ev h ho (x := x) (by simp)
  refine builtin_done ho (s := Builtin.len_ #[t] o.type #[ac.eval x]) (u := v) (fun cs => by simp [builtin]) ?_ (Ctx.le.refl _) h.rel ?_
  · unfold lenA at hv
    split at hv
    · rename_i e ad n k hu hx
      cases hv
      rw [hx] at hc
      generalize ac.eval x = ux at hc
      cases hc <;> simp [Builtin.len_, run_underlying hu]
    · rename_i n e hu
      cases hv
      simp [Builtin.len_, run_underlying hu]
    · rename_i e hu
      split at hv
      · rename_i n e' hu'
        cases hv
        simp [Builtin.len_, run_underlying hu, run_underlying hu']
      · cases hv
    · cases hv
  · unfold lenA at hv
    split at hv
    · cases hv; exact .int _ _
    · cases hv; exact .int _ _
    · split at hv
      · cases hv; exact .int _ _
      · cases hv
    · cases hv

def capA (P : Program) (t : TypeId) (x : Value) : Option Value :=
  match P.underlying t, x with
  | some (.slice _), .slice none 0 0 => some (goInt 0)
  | some (.slice _), .slice _ _ k => if k = 0 then none else some (goInt ((k - 1 : Nat) : Int))
  | _, _ => none

theorem cap_done (h : Pre G w0 c g S w a ac o) (x : Operand) (t : TypeId) (ho : o.op = .call { callee := .builtin .cap, args := #[x], argTypes := #[t] }) (hv : capA P t (a.eval x) = some v) : Done P G w0 ac o c w v S := by
  have hc := arg_ev h ho (x := x) (by simp)
  unfold capA at hv
  split at hv
  · rename_i e hu hx
    cases hv
    rw [hx] at hc
    generalize hux : ac.eval x = ux at hc
    cases hc
    exact builtin_done ho (s := Builtin.cap_ #[t] o.type #[ac.eval x]) (u := goInt 0) (fun cs => by simp [builtin]) (by simp [hux, Builtin.cap_, run_underlying hu]) (Ctx.le.refl _) h.rel (.int _ _)
  · rename_i e ad n k _ hu hx
    split at hv
    · cases hv
    · rename_i hk0
      cases hv
      rw [hx] at hc
      generalize hux : ac.eval x = ux at hc
      cases hc with
      | slice0 => exact absurd rfl hk0
      | slice _ _ _ _ m hbn hn hk hcap =>
        have : k - 1 = m := by omega
        subst this
        exact builtin_done ho (s := Builtin.cap_ #[t] o.type #[ac.eval x]) (u := goInt ((k - 1 : Nat) : Int)) (fun cs => by simp [builtin]) (by simp [hux, Builtin.cap_, run_underlying hu]) (Ctx.le.refl _) h.rel (.int _ _)
      | empty _ _ _ ad hbn hk =>
        have : k - 1 = 0 := by omega
        rw [this]
        exact builtin_done ho (s := Builtin.cap_ #[t] o.type #[ac.eval x]) (u := goInt ((0 : Nat) : Int)) (fun cs => by simp [builtin]) (by simp [hux, Builtin.cap_, run_underlying hu]) (Ctx.le.refl _) h.rel (.int _ _)
  · cases hv

def strCells (s : ByteArray) : List Value := s.data.toList.map fun b => .int .u8 b.toNat
theorem run_firstCells_str (w : World) (size : Nat) (s : ByteArray) : (Builtin.firstCells size s.size (.string s)).run P w = .ok (strCells s).toArray w := by
  have e : s.extract 0 s.size = s := ByteArray.extract_zero_size
  simp only [Builtin.firstCells, e, Sem.run_pure, strCells]
  congr 1
  apply Array.ext'
  simp

/-- What is appended: how many elements, and their cells. -/
def newsA (P : Program) (S : St) (t : TypeId) (x : Value) (size : Nat) : Option (Nat × List Value) :=
  match P.underlying t, x with
  | some (.slice _), .slice none 0 0 => some (0, [])
  | some (.slice _), .slice (some ⟨b, off, none⟩) m _ => if m = 0 then some (0, []) else (S.rd b off (m * size)).map fun l => (m, l)
  | some .string, .string s => some (s.size, strCells s)
  | _, _ => none

structure News (P : Program) (c : Ctx) (w : World) (t : TypeId) (size : Nat) (x : Value) (m : Nat) (news us : List Value) : Prop where
  type : (∃ e, P.underlying t = some (.slice e)) ∨ P.underlying t = some .string
  len : ∀ w, (Builtin.lenOf x).run P w = .ok m w
  first : (Builtin.firstCells size m x).run P w = .ok us.toArray w
  firstd : (Builtin.firstCells size m x).run P w.drew = .ok us.toArray w.drew
  same : us.length = news.length
  rel : ∀ (i : Nat) (v u : Value), news[i]? = some v → us[i]? = some u → VR c v u

theorem news_run (hR : Rel G w0 c g S w) {t : TypeId} {x u : Value} (hx : VR c x u) {size m : Nat} {news : List Value} (h : newsA P S t x size = some (m, news)) : ∃ us, News P c w t size u m news us := by
  unfold newsA at h
  split at h
  · rename_i e hu
    cases h
    cases hx
    exact ⟨[], .inl ⟨_, hu⟩, fun _ => rfl, by simp [Builtin.firstCells], by simp [Builtin.firstCells], rfl, fun i v u h _ => by simp at h⟩
  · rename_i e b off m' k hu
    split at h
    · rename_i hm
      cases h
      subst hm
      have hz2 : ∀ (ad : Option Addr) (n k : Nat) (w : World), (Builtin.firstCells size 0 (.slice ad n k)).run P w = .ok (#[] : Array Value) w := fun ad n k w => by
        cases ad <;> simp [Builtin.firstCells, loadCells, loadCellsFrom]
      cases hx with
      | slice => exact ⟨[], .inl ⟨_, hu⟩, fun _ => rfl, hz2 _ _ _ _, hz2 _ _ _ _, rfl, fun i v u h _ => by simp at h⟩
      | empty => exact ⟨[], .inl ⟨_, hu⟩, fun _ => rfl, hz2 _ _ _ _, hz2 _ _ _ _, rfl, fun i v u h _ => by simp at h⟩
    · rename_i hm
      rw [Option.map_eq_some_iff] at h
      obtain ⟨l, hl, he⟩ := h
      cases he
      obtain ⟨hb, hll, us, hul, hcell, hvr⟩ := hR.rd hl
      cases hx with
      | slice _ _ _ _ cap =>
        refine ⟨us, .inl ⟨_, hu⟩, fun _ => rfl, ?_, ?_, by omega, hvr⟩
        · exact run_firstCells_some (P := P) w size m ⟨(c.loc b).1, (c.loc b).2 + off, none⟩ m cap us hul fun j u hu => by rw [Addr.add_lit]; exact hcell j u hu
        · exact run_firstCells_some (P := P) w.drew size m ⟨(c.loc b).1, (c.loc b).2 + off, none⟩ m cap us hul fun j u hu => by rw [Addr.add_lit]; exact hcell j u hu
      | empty => omega
  · rename_i s hu
    cases h
    cases hx
    refine ⟨strCells s, .inr hu, fun _ => rfl, run_firstCells_str w size s, run_firstCells_str w.drew size s, rfl, fun i v u hv hu => ?_⟩
    rw [hv] at hu
    cases hu
    unfold strCells at hv
    rw [List.getElem?_map, Option.map_eq_some_iff] at hv
    obtain ⟨b, _, rfl⟩ := hv
    exact .int _ _
  · cases h


def need (S : St) (b off n size : Nat) : Option (List Value) := if n = 0 then some [] else S.rd b off (n * size)

/-- append(s, x...). -/
def appA (P : Program) (S : St) (t tx : TypeId) (s x : Value) : Option (Value × St) :=
  match P.underlying t with
  | some (.slice e) => match P.info? e with
    | some i => match i.zero, newsA P S tx x i.size with
      | some z, some (m, news) =>
        if z.cells.size = i.size ∧ 0 < i.size then
          match s with
          | .slice none 0 0 =>
            if m = 0 then some (s, S)
            else if m * i.bytes ≤ 140737488355328 ∧ m ≤ 9223372036854775807 ∧ news.length = m * i.size then
              match S.alloc i.size news with
              | some (b, S') => some (.slice (some ⟨b, 0, none⟩) m 0, S')
              | none => none
            else none
          | .slice (some ⟨b, off, none⟩) n k =>
            if m = 0 then some (s, S)
            else if (n + m) * i.bytes ≤ 140737488355328 ∧ n + m ≤ 9223372036854775807 ∧ news.length = m * i.size then
              match S.blks.get b with
              | some kb =>
                if k ≠ 0 ∧ k - 1 < n + m then
                  match need S b off n i.size with
                  | some olds => match S.alloc i.size (olds ++ news) with
                    | some (b', S') => some (.slice (some ⟨b', 0, none⟩) (n + m) 0, S')
                    | none => none
                  | none => none
                else if kb.sz = i.size then
                  match S.grow b off (n * i.size) news with
                  | some (b', S') => some (.slice (some ⟨b', 0, none⟩) (n + m) 0, S')
                  | none => none
                else none
              | none => none
            else none
          | _ => none
        else none
      | _, _ => none
    | none => none
  | _ => none

section
variable {t tx e : TypeId} {i : TypeInfo} {z : Value}

theorem append_nothing (ht : P.underlying t = some (.slice e)) (hi : P.info? e = some i) {ad : Option Addr} {n cap : Nat} (hle : n ≤ cap) {u : Value} {news us : List Value} (hn : News P c w tx i.size u 0 news us) (h0 : us = []) (ty : TypeId) :
    (Builtin.append_ #[t, tx] ty #[.slice ad n cap, u]).run P w = .ok (.slice ad n cap) w := by
  have hf := hn.first
  rw [h0] at hf
  have hl := hn.len
  rcases hn.type with ⟨e2, hd⟩ | hd <;> cases ad <;> simp [Builtin.append_, run_underlying ht, run_underlying hd, sizeOf, typeInfo, hi, hl, hle, hf, storeCells]

theorem append_room (ht : P.underlying t = some (.slice e)) (hi : P.info? e = some i) {gb o n cap m : Nat} (hle : n + m ≤ cap) {u : Value} {news us : List Value} (hn : News P c w tx i.size u m news us)
    {cur : Array Value} {e' : TypeId} (hg : w.heap[gb]? = some (.cells cur e' (0, 0))) (hfit : o + n * i.size + us.length ≤ cur.size) (h1 : ∀ v ∈ us, v.oneCell' = true) (ty : TypeId) :
    (Builtin.append_ #[t, tx] ty #[.slice (some ⟨gb, o, none⟩) n cap, u]).run P w = .ok (.slice (some ⟨gb, o, none⟩) (n + m) cap) (w.setRow gb (put cur (o + n * i.size) us)) := by
  have hst := run_storeCells_at P gb (o + n * i.size) e' us 0 cur w hg (by simpa using hfit) h1
  simp only [Nat.add_zero] at hst
  have hf := hn.first
  have hl := hn.len
  rcases hn.type with ⟨e2, hd⟩ | hd <;> simp [Builtin.append_, run_underlying ht, run_underlying hd, sizeOf, typeInfo, hi, hl, hle, hf, Addr.add_lit, hst, put]

theorem append_grow (ht : P.underlying t = some (.slice e)) (hi : P.info? e = some i) (hz : i.zero = some z) {ad : Option Addr} {n cap m : Nat} (hlt : cap < n + m) {u : Value} {news us : List Value} (hn : News P c w tx i.size u m news us)
    {olds : List Value} (ho : (Builtin.firstCells i.size n (.slice ad n cap)).run P w.drew = .ok olds.toArray w.drew) (hby : (n + m) * i.bytes ≤ 140737488355328) (h63 : n + m ≤ 9223372036854775807) (ty : TypeId) :
    (Builtin.append_ #[t, tx] ty #[.slice ad n cap, u]).run P w =
      .ok (.slice (some ⟨w.heap.size, 0, none⟩) (n + m) (grownCap w (n + m) cap e)) (w.drew.alloc (.cells (olds.toArray ++ us.toArray ++ Builtin.zeroCells z.cells (grownCap w (n + m) cap e - (n + m))) e)) := by
  have hf := hn.firstd
  have hl := hn.len
  have hn1 : ¬ (n + m ≤ cap) := by omega
  have h63' : ¬ (9223372036854775807 < ((n : Int) + (m : Int))) := by omega
  have h48' : ¬ (281474976710656 < Builtin.nextslicecap (n + m) cap * i.bytes) := by have := growslice_fits hlt hby; omega
  rcases hn.type with ⟨e2, hd⟩ | hd <;>
    (simp [Builtin.append_, run_underlying ht, run_underlying hd, sizeOf, typeInfo, zeroValue, hi, hz, hl, hn1, h63', h48', Question.forced, hf, ho, newRow, grownCap]
     congr 2
     apply Array.ext'
     simp [List.append_assoc])

theorem cap_bound {n m cap : Nat} {z : Value} {size : Nat} (hzs : z.cells.size = size) (olds us : List Value) (hlo : olds.length = n * size) (hlu : us.length = m * size) (hge : n + m ≤ cap) :
    (olds.toArray ++ us.toArray ++ Builtin.zeroCells z.cells (cap - (n + m))).size = cap * size := by
  simp only [Array.size_append, List.size_toArray, size_zeroCells, hzs, hlo, hlu, ← Nat.add_mul]
  congr 1
  omega
end

end Go.Am
