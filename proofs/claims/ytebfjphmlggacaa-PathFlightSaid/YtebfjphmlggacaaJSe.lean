/- SortFunc on runs, gather of package spans (laid by ak/port3.py). Conditions: as each theorem lists them. -/
import Derived.Test.YtebfjphmlggacaaJSc
import Derived.Test.YtebfjphmlggacaaJSh2
import Derived.Laws.OwnMore
import Derived.Deep.QuietTactic
import Derived.BigQuiet
import Derived.StillTailTactics
set_option linter.unusedSimpArgs false
set_option linter.unusedVariables false

namespace Go.Proofs.Ytebfjphmlggacaa.Sp
open Go Go.RowKit
theorem rd_cell {w w' : World} {B n q : Nat} {A : Option Addr} {l : List Int} (h : Rd w B A n (ints l)) (hB : B ≤ w.heap.size) (hg : w.grownBy w' (some q)) {A' : Option Addr} {n' c' : Nat} {t : TypeId} (hq : w.heap[q]? = some (.cells #[.slice A' n' c'] t (0, 0))) : Rd w' B A n (ints l) := by
  refine ⟨h.1, fun hn => ?_⟩
  obtain ⟨b, off, e, hlt, hc⟩ := h.2 hn
  refine ⟨b, off, e, hlt, fun j u hu => ?_⟩
  have h1 := hc j u hu
  have hne : b ≠ q := fun e => by
    subst e
    have h2 : u = .slice A' n' c' := by
      have h0 : off + j = 0 := by
        rcases Nat.eq_zero_or_pos (off + j) with h0 | h0
        · exact h0
        · have : w.cell? ⟨b, off + j, none⟩ = none := by
            simp only [World.cell?, hq]
            simp; omega
          rw [this] at h1; cases h1
      rw [h0, cell_of_one hq] at h1
      cases h1; rfl
    subst h2
    rw [ints, List.getElem?_map] at hu
    cases hh : l[j]? <;> rw [hh] at hu <;> simp at hu
  exact hg.cell h1 (by simp; omega)

def encP (x : Int × Int) : List Value := [.int .i64 x.1, .int .i64 x.2]

set_option maxHeartbeats 1000000 in
theorem cmp_clo (x y : Int × Int) (W : World) : Calls Try.prog 72 #[.agg #[.int .i64 x.1, .int .i64 x.2], .agg #[.int .i64 y.1, .int .i64 y.2]] W fun e w' => e = .returned (.int .i64 (Lib.compareInt x.1 y.1)) ∧ ∃ q os', w' = Sort.grow (W.drewN q) os' := by
  have hcon := fun W' => Try.cmp_Compare_int x.1 y.1 W'
  generalize Lib.compareInt x.1 y.1 = r at hcon ⊢
  go_enter Try.func72, Try.ntmps72
  go_wp2_with (go_at_call 73; refine (hcon _).mono ?_; rintro e w' ⟨rfl, rfl⟩)
  go_ret
  exact ⟨rfl, 0, _, by rw [Sort.alloc_eq_grow, Sort.alloc_eq_grow, Sort.grow_grow]; rfl⟩

theorem lt_cmp (x y : Int × Int) : Go.Proofs.ltOf (fun x y : Int × Int => Lib.compareInt x.1 y.1) x y = decide (x.1 < y.1) := by
  unfold Go.Proofs.ltOf Lib.compareInt
  by_cases h1 : x.1 < y.1
  · simp [h1]
  · by_cases h2 : y.1 < x.1 <;> simp [h1, h2]
theorem swo_cmp : Sort.SWO (Go.Proofs.ltOf fun x y : Int × Int => Lib.compareInt x.1 y.1) where
  irrefl x := by rw [lt_cmp]; simp
  trans x y z h1 h2 := by rw [lt_cmp] at *; simp at *; omega
  ntrans x y z h1 h2 := by rw [lt_cmp] at *; simp at *; omega

theorem flat_pl (rs : List (Int × Int)) : (Sort.flatK encP 2 rs.toArray).toList = ints (pl rs) := by
  refine List.ext_getElem? fun t => ?_
  rcases Nat.lt_or_ge t (rs.length * 2) with h | h
  · have h1 : (Sort.flatK encP 2 rs.toArray).toList[t]? = some ((Sort.flatK encP 2 rs.toArray)[t]!) := by
      rw [Array.getElem?_toList, Array.getElem?_eq_getElem (by simpa using h), getElem!_pos _ t (by simpa using h)]
    rw [h1, Sort.get_flatK _ _ _ _ (by simpa using h)]
    obtain ⟨k, hk⟩ : ∃ k, t = 2 * k ∨ t = 2 * k + 1 := ⟨t / 2, by omega⟩
    have h2 : k < rs.length := by omega
    have h3 := pl_get0 rs k rs[k] (by simp [h2])
    have h4 : rs.toArray[k]! = rs[k] := by simp [h2]
    rw [ints_get _ _ (by rw [pl_len]; omega)]
    rcases hk with rfl | rfl
    · rw [show 2 * k / 2 = k by omega, show 2 * k % 2 = 0 by omega, h4, h3.1]; rfl
    · rw [show (2 * k + 1) / 2 = k by omega, show (2 * k + 1) % 2 = 1 by omega, h4, h3.2]; rfl
  · rw [List.getElem?_eq_none (by simpa using h), List.getElem?_eq_none (by rw [ints_len, pl_len]; omega)]

set_option maxHeartbeats 1000000 in
theorem sort_any (rs : List (Int × Int)) (base : Nat) (A : Option Addr) (c : Nat) (w : World) (hown : w.ownsRow base 29 2 (.slice A rs.length c) rs.length (ints (pl rs))) (hbase : base ≤ w.heap.size) (hm : rs.length ≤ 17592186044416) :
    Calls Try.prog 71 #[.slice A rs.length c, .func (.func 72) #[] #[]] w fun e w' => e = .returned (.tuple #[]) ∧ ∃ rs' : List (Int × Int), rs'.Perm rs ∧ rs'.Pairwise (fun a b => a.1 ≤ b.1) ∧ w'.ownsRow base 29 2 (.slice A rs.length c) rs.length (ints (pl rs')) ∧ w.grownBy w' (Value.slice A rs.length c).ownBlock := by
  rcases Nat.eq_zero_or_pos rs.length with h0 | h0
  · have e0 : rs = [] := List.eq_nil_of_length_eq_zero h0
    subst e0
    refine (Try.slices_SortFunc_none (α := Int × Int) A c _ w).mono ?_
    rintro e w' ⟨rfl, rfl⟩
    exact ⟨rfl, [], List.Perm.refl _, List.Pairwise.nil, hown, ⟨rfl, rfl, rfl, Nat.le_refl _, fun _ _ _ => rfl⟩⟩
  · obtain ⟨g, cap, cur, hv, hg, hh, hnc, hcm, hcs, htake⟩ : ∃ g cap cur, (Value.slice A rs.length c) = .slice (some ⟨g, 0, none⟩) rs.length cap ∧ base ≤ g ∧ w.heap[g]? = some (.cells cur 29 (0, 0)) ∧ rs.length ≤ cap ∧ cap ≤ maxLen ∧ cur.size = cap * 2 ∧ cur.toList.take (rs.length * 2) = ints (pl rs) := by
      rcases hown.2 with ⟨_, e⟩ | h
      · omega
      · exact h
    simp only [Value.slice.injEq, true_and] at hv
    obtain ⟨rfl, rfl⟩ := hv
    have hlt : g < w.heap.size := (Array.getElem?_eq_some_iff.1 hh).1
    have hH : Sort.HoldsK encP 2 w g 0 rs.toArray := fun j hj => by
      rw [Sort.size_flatK] at hj
      have hj' : j < rs.length * 2 := by simpa using hj
      refine ⟨?_, ?_⟩
      · rw [Nat.zero_add, Am.cell_of w g j cur _ (0, 0) hh]
        have e1 : cur[j]? = (cur.toList.take (rs.length * 2))[j]? := by rw [List.getElem?_take, if_pos hj', Array.getElem?_toList]
        rw [e1, htake, ← flat_pl, Array.getElem?_toList, Array.getElem?_eq_getElem (by simpa using hj'), getElem!_pos _ j (by simpa using hj')]
        rfl
      · rw [Nat.zero_add]; exact frozen_of_row w g j cur _ hh
    have eg : ∀ args w, (callFunc 72 args).run Try.prog w = .ok (.enter 72 args) w := enters_of Try.func72 (by kernel_rfl) rfl
    have hlen : rs.length < 4611686018427387904 := by omega
    have := Try.slices_SortFunc 2 Try.isAgg29 Try.sizeOf29 encP (fun _ => rfl) (fun x v hv => by simp [encP] at hv; rcases hv with rfl | rfl <;> rfl) (fun x y => Lib.compareInt x.1 y.1) swo_cmp 72 #[] g 0 c rs.toArray w eg (fun _ _ _ _ x y => cmp_clo x y _) hH hlt (by simpa using hlen)
    rw [show rs.toArray.size = rs.length by simp] at this
    refine this.mono ?_
    rintro e w' ⟨rfl, d', n, os, hp, hs, rfl⟩
    obtain ⟨hsz, _, hperm⟩ := hp
    have hsz' : d'.size = rs.length := by simpa using hsz
    have hperm' : d'.toList.Perm rs := by
      have e1 : (d'.extract 0 rs.length) = d' := by rw [← hsz']; exact Array.extract_size
      have e2 : (rs.toArray.extract 0 rs.length) = rs.toArray := by simp
      rw [e1, e2] at hperm
      simpa using hperm
    refine ⟨rfl, d'.toList, hperm', ?_, ?_, ?_⟩
    · rw [List.pairwise_iff_getElem]
      intro i j hi hj hij
      have := hs i j (Nat.zero_le _) hij (by simpa [hsz'] using hj)
      rw [lt_cmp] at this
      simp at hi hj
      simp [hi, hj] at this
      simpa using this
    · obtain ⟨F, hF⟩ : ∃ F, Sort.flatK encP 2 d' = F := ⟨_, rfl⟩
      have hFs : F.size = rs.length * 2 := by rw [← hF, Sort.size_flatK, hsz']
      have hFl : F.toList = ints (pl d'.toList) := by
        have := flat_pl d'.toList
        rw [Array.toArray_toList, hF] at this
        exact this
      have hh' : (Go.Proofs.sortWorldK encP 2 w g 0 n d' os).heap[g]? = some (.cells (Sort.putCells id 0 F cur) 29 (0, 0)) := by
        show ((w.heap.modify g (Sort.onCells (Sort.putCells id 0 (Sort.flatK encP 2 d')))) ++ os)[g]? = _
        rw [Array.getElem?_append_left (by simpa using hlt), Array.getElem?_modify, if_pos rfl, hh, hF]
        rfl
      refine ⟨by rw [ints_len, pl_len]; simp [hsz']; omega,   .inr ⟨g, c, _, rfl, hg, hh', hnc, hcm, by simp [Sort.putCells, hcs], ?_⟩⟩
      rw [← hFl]
      refine List.ext_getElem? fun t => ?_
      rw [List.getElem?_take]
      split
      · rename_i ht
        have htc : t < cur.size := by omega
        rw [Array.getElem?_toList, Sort.putCells, Array.getElem?_mapIdx, Array.getElem?_eq_getElem htc, Option.map_some, if_pos ⟨Nat.zero_le _, by omega⟩, Array.getElem?_toList, Array.getElem?_eq_getElem (by omega), Nat.sub_zero, getElem!_pos _ t (by omega)]
        rfl
      · rw [List.getElem?_eq_none (by simp; omega)]
    · refine ⟨rfl, rfl, rfl, ?_, fun k hk hne => ?_⟩
      · show w.heap.size ≤ ((w.heap.modify g _) ++ os).size
        simp
      · show ((w.heap.modify g _) ++ os)[k]? = _
        rw [Array.getElem?_append_left (by simp; omega), Array.getElem?_modify, if_neg (fun e => hne (by simp [Value.ownBlock, e]))]
end Go.Proofs.Ytebfjphmlggacaa.Sp
namespace Go.Proofs.Ytebfjphmlggacaa.Sp
open Go Go.RowKit

theorem still_tail {P : Program} {id : Nat} {Q : Exit → Act → World → Prop} {a : Act} {w : World} {l : List Oper} (n : Nat) (hm : P.follows .mixedOrders = true) (hB : Region.lexTailB .any l.toArray n = true)
    (h : ∀ w' : World, w' = w.drew → wpStill P l.toArray w' (fun a' => wpList P l.toArray Q (l.drop n) a' w') (l.take n) a) : (Code.region id l.toArray true).wp P Q a w :=
  wp_region_still_tail n hm hB (h _ rfl)

/-- What an address leads to was not there. -/
def Fresh (w : World) (A : Option Addr) : Prop := ∀ a, A = some a → w.heap.size ≤ a.block

/-- A set's value. -/
def SetVal (w : World) (es : List Int) (A : Option Addr) (c : Nat) : Prop := Ok es ∧ es.length ≤ c ∧ okA A es.length c ∧ Rd w w.heap.size A es.length (ints es)

def GatherP (rs : List (Int × Int)) (base : Nat) (w : World) (e : Ending) (w' : World) : Prop :=
  ∃ es A' c', e = .returned (.agg #[.slice A' es.length c']) ∧ SetVal w' es A' c' ∧ (∀ n, mem es n = rs.any (inRun n)) ∧ es.length ≤ 2 * rs.length ∧ Below base w w' ∧ Fresh w A'

set_option maxRecDepth 100000 in
set_option maxHeartbeats 8000000 in
theorem gather_any (rs : List (Int × Int)) (base : Nat) (A : Option Addr) (c : Nat) (w : World) (hown : w.ownsRow base 29 2 (.slice A rs.length c) rs.length (ints (pl rs))) (hbase : base ≤ w.heap.size) (hr : ∀ r ∈ rs, RunOk r) (hm : rs.length ≤ 17592186044416) (hE : (∀ r ∈ rs, r.2 ≤ ((1000 : Nat) : Int)) ∨ rs.length ≤ 8796093022207) :
    Calls Try.prog 61 #[.slice A rs.length c] w fun e w' => GatherP rs base w e w' := by
  obtain ⟨m, hmm⟩ : ∃ m, Hid (rs.length = m) := ⟨_, rfl⟩
  have HS : Hid (∀ o, Calls Try.prog 71 #[.slice A m c, .func (.func 72) #[] #[]] (w.alloc o) fun e w' => e = .returned (.tuple #[]) ∧ ∃ rs' : List (Int × Int), rs'.Perm rs ∧ rs'.Pairwise (fun a b => a.1 ≤ b.1) ∧ w'.ownsRow base 29 2 (.slice A m c) m (ints (pl rs')) ∧ (w.alloc o).grownBy w' (Value.slice A m c).ownBlock) := fun o => by
    have := sort_any rs base A c (w.alloc o) (hown.alloc o) (by simp; omega) (by omega)
    rw [hmm.out] at this
    exact this
  have HR := Lib.hid hr
  have HL : Hid (∀ k, (Value.slice A m c).ownBlock = some k → k < w.heap.size) := fun k hk => (hown.lt k (by rw [hmm.out]; exact hk)).2
  have HBase := Lib.hid hbase
  have hmb : (m : Int) ≤ 17592186044416 := by have := hmm.out; omega
  obtain ⟨i0, hii, hz0, hz1, hz2⟩ := info_parts infoI
  have HI := Lib.hid (And.intro hii (And.intro hz0 (And.intro hz1 hz2)))
  have hmc : m ≤ c := by
    obtain ⟨A', c', e, h, _⟩ := own_form hown
    simp only [Value.slice.injEq] at e
    have := hmm.out
    omega
  have hmcI : (m : Int) ≤ (c : Int) := by omega
  rw [hmm.out]
  have HE := Lib.hid hE
  clear hr hown hbase hii hz0 hz1 hz2 hm hE
  go_enter Try.func61, Try.ntmps61
  go_wp2_with fail
  refine (HS.out _).mono ?_
  rintro e w2 ⟨rfl, rs', hp, hs, ho, hb⟩
  have HP := Lib.hid hp
  have HSo := Lib.hid hs
  have HO := Lib.hid ho
  have HB : Hid (Below base w w2) := ((Below.refl _ _).alloc HBase.out _).grown hb (by have := HBase.out; simp; omega) (fun g hg => (ho.lt g hg).1)
  have hm' : Hid (rs'.length = m) := by show _ = _; rw [HP.out.length_eq]; exact hmm.out
  have HC : Hid (w2.heap[w.heap.size]? = some (.cells #[.slice none 0 0] 87 (0, 0))) := by
    rw [hb.block w.heap.size (by simp) (fun e => by have := HL.out _ e.symm; omega)]
    exact heap_alloc_new w _
  have HGI : Hid (∀ k, k ≤ m → GI (gatherF (rs'.take k)) (rs'.take k)) := fun k hk => gather_inv rs' (fun r hr => HR.out r (HP.out.mem_iff.1 hr)) HSo.out k (by rw [hm'.out]; exact hk)
  have HLen : Hid (∀ k, k ≤ m → (gatherF (rs'.take k)).length ≤ 17592186044414) := fun k hk => by
    rcases HE.out with h | h
    · have h1 := small_len (HGI.out k hk).1 1000 (gather_small rs' _ (fun r hr => by
        have h2 := HP.out.mem_iff.1 hr
        have := HR.out r h2; have := h r h2
        unfold RunOk at this
        exact ⟨by have := (HR.out r h2).2.1; omega, h r h2⟩) k)
      omega
    · have := gather_len rs' k; have := hmm.out; omega
  obtain ⟨_, _, e0, _, _, _, hrd⟩ := own_form HO.out
  simp only [Value.slice.injEq, true_and] at e0
  obtain ⟨rfl, rfl⟩ := e0
  have HRd : Hid (Rd w2 w2.heap.size A (m * 2) (ints (pl rs'))) := hrd
  clear hp hs ho hb hrd
  go_wp2
  go_loopw [3, 11] (fun v i wr => ∃ k L : Nat, k ≤ m ∧ i = .int .i64 k ∧ L ≤ 17592186044414 ∧ (∃ A3 c3, v = .slice A3 L c3) ∧ Hid (L = (gatherF (rs'.take k)).length ∧ wr.ownsRow w2.heap.size 3 1 v L (ints (gatherF (rs'.take k))) ∧ Below w2.heap.size w2 wr)) (fun _ i _ => m - (intOf i).toNat)
  case atStart => exact ⟨0, 0, Nat.zero_le _, rfl, by omega, ⟨_, _, rfl⟩, rfl, own_nil _ _ _ _, Below.refl _ _⟩
  case round =>
    obtain ⟨k, L, hk, rfl, hL, ⟨A3, c3, rfl⟩, HK⟩ := hrel
    obtain ⟨es, hes⟩ : ∃ es, Hid (gatherF (rs'.take k) = es) := ⟨_, rfl⟩
    rw [hes.out] at HK
    by_cases hlt : k < m
    · have hlti : (k : Int) < (m : Int) := by omega
      obtain ⟨b, off, hA, hbn, hcs⟩ := HRd.out.2 (by omega)
      subst hA
      have hk' : k < rs'.length := by rw [hm'.out]; exact hlt
      rcases hxy : rs'[k]'hk' with ⟨x, y⟩
      have hg := pl_get0 rs' k (x, y) (by rw [List.getElem?_eq_getElem hk', hxy])
      have hcx : wr.cell? ⟨b, off + k * 2, none⟩ = some (.int .i64 x) := by
        rw [HK.out.2.2.cell (p := ⟨b, off + k * 2, none⟩) hbn, show off + k * 2 = off + 2 * k by omega, hcs (2 * k) _ (ints_get _ _ (by rw [pl_len]; omega)), hg.1]
      have hcy : wr.cell? ⟨b, off + k * 2 + 1, none⟩ = some (.int .i64 y) := by
        rw [HK.out.2.2.cell (p := ⟨b, off + k * 2 + 1, none⟩) hbn, show off + k * 2 + 1 = off + (2 * k + 1) by omega, hcs (2 * k + 1) _ (ints_get _ _ (by rw [pl_len]; omega)), hg.2]
      have HSt : Hid (gatherF (rs'.take (k + 1)) = gatherStep es (x, y)) := by show _ = _; rw [List.take_succ_eq_append_getElem hk', gather_snoc, hes.out, hxy]
      have hxb : RunOk (x, y) := HR.out _ (HP.out.mem_iff.1 (by rw [← hxy]; exact List.getElem_mem hk'))
      have nb := World.new_ne wr _ hcx
      have HSW : Hid (w2.heap.size ≤ wr.heap.size) := HK.out.2.2.size
      clear hcs hg hxy hk'
      by_cases hL0 : L = 0
      · subst hL0
        go_wp2_with fail
        go_quiet (fail)
        obtain ⟨wz, hwz⟩ : ∃ wz, (wr.alloc (Obj.cells #[Value.int IntKind.i64 x, Value.int IntKind.i64 y] 29)).drewN nq = wz := ⟨_, rfl⟩
        rw [hwz]
        have kz1 : wz.cell? ⟨wr.heap.size, 0, none⟩ = some (.int .i64 x) := by
          rw [← hwz]; exact World.cell?_alloc_at _ _ _ _ rfl
        have kz3 : wz.cell? ⟨wr.heap.size, 1, none⟩ = some (.int .i64 y) := by
          rw [← hwz]; exact World.cell?_alloc_at _ _ _ _ rfl
        have kz4 : Hid (Below wr.heap.size wr wz) := by rw [← hwz]; exact ((Below.refl _ _).alloc (Nat.le_refl _) _).trans (Below.drewN' _ _ _)
        have kz5 : Hid (w2.heap.size ≤ wz.heap.size) := Nat.le_trans HSW.out kz4.out.size
        clear hwz
        have hd1 : Hid (Rd (wz.alloc (.cells #[.int .i64 x, .int .i64 y] 3)) (wz.heap.size + 1) (some ⟨wz.heap.size, 0, none⟩) (2 * 1) (ints [x, y])) := rd_new _ _ _ _ _ _ _ rfl (by omega) rfl rfl
        have hd2 : Hid (0 + 2 ≤ maxLen) := by show _ ≤ _; unfold maxLen; omega
        have hd3 : Hid ((0 + 2) * 8 ≤ 140737488355328) := by show _ ≤ _; omega
        have hd4 : Hid (w2.heap.size ≤ (wz.alloc (.cells #[.int .i64 x, .int .i64 y] 3)).heap.size) := by have := kz5.out; show _ ≤ _; simp only [World.size_alloc]; omega
        go_wp2_with (at_builtin; refine wpList_app _ rfl (.tmp 39) (.tmp 44) 55 rfl w2.heap.size 3 i0 (.int .i64 0) 1 8 Try.underlying55 HI.out.1 HI.out.2.1 HI.out.2.2.1 HI.out.2.2.2 rfl (by decide) (.slice A3 (0) c3) (0) (ints es) rfl ((own_below HK.out.2.1 kz4.out).alloc _) (wz.heap.size + 1) (some ⟨wz.heap.size, 0, none⟩) 2 _ (ints [x, y]) rfl hd1.out (ones_ints _) hd2.out hd3.out hd4.out ?_)
        intro v5 w5 hown5 hgrow5
        have HN : Hid (0 + 2 = (gatherF (rs'.take (k + 1))).length ∧ w5.ownsRow w2.heap.size 3 1 v5 (0 + 2) (ints (gatherF (rs'.take (k + 1)))) ∧ Below w2.heap.size w2 w5) := by
          have e : gatherStep es (x, y) = es ++ [x, y] := by
            unfold gatherStep
            rw [if_neg (fun h => by have := HK.out.1; omega)]
          rw [HSt.out, e]
          refine ⟨by rw [List.length_append, ← HK.out.1]; rfl, ?_, ((HK.out.2.2.trans (kz4.out.mono HSW.out)).alloc kz5.out _).grown hgrow5 hd4.out (fun j hj => (HK.out.2.1.lt j hj).1)⟩
          rw [ints_app]; exact hown5
        clear hown5 hgrow5 kz1 kz3 
        obtain ⟨A5, c5, e5, _⟩ := own_form HN.out.2.1
        subst e5
        go_wp2_with fail
        go_roundw
        case rel => exact ⟨k + 1, 0 + 2, by omega, by go_num, by rw [HN.out.1]; exact HLen.out (k + 1) (by omega), ⟨_, _, rfl⟩, HN⟩
        case measure => simp [intOf]; omega
      · obtain ⟨l, rfl⟩ : ∃ l, L = l + 1 := ⟨L - 1, by omega⟩
        clear hL0
        obtain ⟨g, hA3⟩ : ∃ g, A3 = some ⟨g, 0, none⟩ := by
          rcases HK.out.2.1.2 with ⟨_, e⟩ | ⟨g, _, _, e, _⟩
          · omega
          · simp only [Value.slice.injEq] at e; exact ⟨g, e.1⟩
        subst hA3
        have hgl := HK.out.2.1.lt g rfl
        have hll : l < es.length := by have := HK.out.1; omega
        obtain ⟨z, hzz⟩ : ∃ z, Hid (es.getD l 0 = z) := ⟨_, rfl⟩
        have hcz : wr.cell? ⟨g, l, none⟩ = some (.int .i64 z) := by
          rw [HK.out.2.1.cellAt l (by omega), ints_get _ _ hll, hzz.out]
        have hfz : wr.frozen? ⟨g, l, none⟩ = false := HK.out.2.1.frozenAt l
        have hgn : wr.heap.size ≠ g := by omega
        have hl0 : (0 : Int) ≤ (l : Int) := by omega
        have hlL : (l : Int) < (l : Int) + 1 := by omega
        have hc3 : l + 1 ≤ c3 := by
          obtain ⟨_, _, e, h, _⟩ := own_form HK.out.2.1
          simp only [Value.slice.injEq] at e
          omega
        by_cases hz : x ≤ z
        · go_wp2_with fail
          go_quiet (fail)
          go_wp2_with fail
          refine still_tail 10 (by kernel_rfl) (by kernel_rfl) ?_
          intro wz hwz
          have kz1 : wz.cell? ⟨g, l, none⟩ = some (.int .i64 z) := by
            rw [hwz]; exact (World.cell?_alloc_past _ _ _ hgl.2).trans hcz
          have kz2 : wz.frozen? ⟨g, l, none⟩ = false := by
            rw [hwz]; exact (((Below.refl wr.heap.size wr).alloc (Nat.le_refl _) _).frozen (p := ⟨g, l, none⟩) hgl.2).trans hfz
          have kz3 : wz.cell? ⟨wr.heap.size, 1, none⟩ = some (.int .i64 y) := by
            rw [hwz]; exact World.cell?_alloc_at _ _ _ _ rfl
          have kz4 : Hid (Below wr.heap.size wr wz) := by rw [hwz]; exact (((Below.refl _ _).alloc (Nat.le_refl _) _).trans (Below.drewN' _ _ _)).drew
          clear hwz
          simp only [List.take_succ_cons, List.take_zero, List.drop_succ_cons, List.drop_zero]
          repeat still_step
          refine wpStill_nil ?_
          go_wp2_with fail
          have HN : Hid (l + 1 = (gatherF (rs'.take (k + 1))).length ∧ (wz.setCell ⟨g, l, none⟩ (.int .i64 (max z y))).ownsRow w2.heap.size 3 1 (.slice (some ⟨g, 0, none⟩) (l + 1) c3) (l + 1) (ints (gatherF (rs'.take (k + 1)))) ∧ Below w2.heap.size w2 (wz.setCell ⟨g, l, none⟩ (.int .i64 (max z y)))) := by
            have e : gatherStep es (x, y) = es.set l (max z y) := by
              unfold gatherStep
              have h1 : es.length - 1 = l := by have := HK.out.1; omega
              rw [h1, hzz.out, if_pos ⟨by omega, hz⟩]
            rw [HSt.out, e]
            refine ⟨by rw [List.length_set]; exact HK.out.1, ?_, (HK.out.2.2.trans (kz4.out.mono HSW.out)).setCell hgl.1 _⟩
            have := ((own_below HK.out.2.1 kz4.out).stored l (.int .i64 (max z y))).1
            rwa [show (ints es).set l (Value.int .i64 (max z y)) = ints (es.set l (max z y)) by simp [ints, List.map_set]] at this
          clear kz1 kz2 kz3 hcz hfz
          go_roundw
          case rel => exact ⟨k + 1, l + 1, by omega, by go_num, by rw [HN.out.1]; exact HLen.out (k + 1) (by omega), ⟨_, _, rfl⟩, HN⟩
          case measure => simp [intOf]; omega
        · have HNE : Hid (¬ (0 < es.length ∧ x ≤ es.getD (es.length - 1) 0)) := fun h => hz (by
            have h1 : es.length - 1 = l := by have := HK.out.1; omega
            rw [h1, hzz.out] at h
            exact h.2)
          go_wp2_with fail
          go_quiet (fail)
          obtain ⟨wz, hwz⟩ : ∃ wz, (wr.alloc (Obj.cells #[Value.int IntKind.i64 x, Value.int IntKind.i64 y] 29)).drewN nq = wz := ⟨_, rfl⟩
          rw [hwz]
          have kz1 : wz.cell? ⟨wr.heap.size, 0, none⟩ = some (.int .i64 x) := by
            rw [← hwz]; exact World.cell?_alloc_at _ _ _ _ rfl
          have kz3 : wz.cell? ⟨wr.heap.size, 1, none⟩ = some (.int .i64 y) := by
            rw [← hwz]; exact World.cell?_alloc_at _ _ _ _ rfl
          have kz4 : Hid (Below wr.heap.size wr wz) := by rw [← hwz]; exact ((Below.refl _ _).alloc (Nat.le_refl _) _).trans (Below.drewN' _ _ _)
          have kz5 : Hid (w2.heap.size ≤ wz.heap.size) := Nat.le_trans HSW.out kz4.out.size
          clear hwz
          have hd1 : Hid (Rd (wz.alloc (.cells #[.int .i64 x, .int .i64 y] 3)) (wz.heap.size + 1) (some ⟨wz.heap.size, 0, none⟩) (2 * 1) (ints [x, y])) := rd_new _ _ _ _ _ _ _ rfl (by omega) rfl rfl
          have hd2 : Hid ((l + 1) + 2 ≤ maxLen) := by show _ ≤ _; unfold maxLen; omega
          have hd3 : Hid (((l + 1) + 2) * 8 ≤ 140737488355328) := by show _ ≤ _; omega
          have hd4 : Hid (w2.heap.size ≤ (wz.alloc (.cells #[.int .i64 x, .int .i64 y] 3)).heap.size) := by have := kz5.out; show _ ≤ _; simp only [World.size_alloc]; omega
          go_wp2_with (at_builtin; refine wpList_app _ rfl (.tmp 39) (.tmp 44) 55 rfl w2.heap.size 3 i0 (.int .i64 0) 1 8 Try.underlying55 HI.out.1 HI.out.2.1 HI.out.2.2.1 HI.out.2.2.2 rfl (by decide) (.slice (some ⟨g, 0, none⟩) ((l + 1)) c3) ((l + 1)) (ints es) rfl ((own_below HK.out.2.1 kz4.out).alloc _) (wz.heap.size + 1) (some ⟨wz.heap.size, 0, none⟩) 2 _ (ints [x, y]) rfl hd1.out (ones_ints _) hd2.out hd3.out hd4.out ?_)
          intro v5 w5 hown5 hgrow5
          have HN : Hid ((l + 1) + 2 = (gatherF (rs'.take (k + 1))).length ∧ w5.ownsRow w2.heap.size 3 1 v5 ((l + 1) + 2) (ints (gatherF (rs'.take (k + 1)))) ∧ Below w2.heap.size w2 w5) := by
            have e : gatherStep es (x, y) = es ++ [x, y] := by
              unfold gatherStep
              rw [if_neg (HNE.out)]
            rw [HSt.out, e]
            refine ⟨by rw [List.length_append, ← HK.out.1]; rfl, ?_, ((HK.out.2.2.trans (kz4.out.mono HSW.out)).alloc kz5.out _).grown hgrow5 hd4.out (fun j hj => (HK.out.2.1.lt j hj).1)⟩
            rw [ints_app]; exact hown5
          clear hown5 hgrow5 kz1 kz3 hcz hfz
          obtain ⟨A5, c5, e5, _⟩ := own_form HN.out.2.1
          subst e5
          go_wp2_with fail
          go_roundw
          case rel => exact ⟨k + 1, (l + 1) + 2, by omega, by go_num, by rw [HN.out.1]; exact HLen.out (k + 1) (by omega), ⟨_, _, rfl⟩, HN⟩
          case measure => simp [intOf]; omega
    · have hlti : ¬ (k : Int) < (m : Int) := by omega
      obtain rfl : k = m := by omega
      have hhc : wr.heap[w.heap.size]? = some (.cells #[.slice none 0 0] 87 (0, 0)) := (HK.out.2.2.block _ (lt_of_block HC.out)).trans HC.out
      have hcw : wr.cell? ⟨w.heap.size, 0, none⟩ = some (.slice none 0 0) := cell_of_one hhc
      have hfw : wr.frozen? ⟨w.heap.size, 0, none⟩ = false := free_of_one hhc
      have HHC := Lib.hid hhc
      clear hhc
      have HF : Hid (Ok es ∧ ∀ n, mem es n = rs.any (inRun n)) := by
        have h := gather_all rs' (fun r hr => HR.out r (HP.out.mem_iff.1 hr)) HSo.out
        have e : rs'.take k = rs' := List.take_of_length_le (by rw [hm'.out]; exact Nat.le_refl _)
        have h2 := hes.out
        rw [e] at h2
        rw [h2] at h
        refine ⟨h.1, fun n => ?_⟩
        rw [h.2 n, Bool.eq_iff_iff, List.any_eq_true, List.any_eq_true]
        exact ⟨fun ⟨r, hr, h⟩ => ⟨r, HP.out.mem_iff.1 hr, h⟩, fun ⟨r, hr, h⟩ => ⟨r, HP.out.mem_iff.2 hr, h⟩⟩
      obtain ⟨_, _, e3, hc3, _, hok3, hrd3⟩ := own_form HK.out.2.1
      simp only [Value.slice.injEq, true_and] at e3
      obtain ⟨rfl, rfl⟩ := e3
      have H3 := Lib.hid (And.intro hc3 (And.intro hok3 hrd3))
      clear hc3 hok3 hrd3
      go_wp2_with fail
      refine bodyPost_ret (v := .agg #[.slice A3 L c3]) (by simp [results, Try.results61, go_sem, one_setCell HHC.out, cell_of_one (one_setCell HHC.out)]) rfl ?_
      have HG : w.heap.size < w2.heap.size := lt_of_block HC.out
      have hL := HK.out.1
      refine ⟨es, A3, c3, by rw [hL], ⟨HF.out.1, by rw [← hL]; exact H3.out.1, by rw [← hL]; exact H3.out.2.1, ?_⟩, HF.out.2, by have := hmm.out; have h8 := gather_len rs' k; rw [hes.out] at h8; omega, ?_, fun a ha => by subst ha; have := (HK.out.2.1.lt a.block rfl).1; omega⟩
      · have hg : wr.grownBy (wr.setCell ⟨w.heap.size, 0, none⟩ (.slice A3 L c3)) (some w.heap.size) := grown_of (Below.refl _ _) _ _ _
        have := H3.out.2.2
        rw [Nat.mul_one] at this
        have h2 := (rd_cell this (Nat.le_refl _) hg HHC.out).more hg.size
        rw [hL] at h2 ⊢
        exact h2
      · exact (HB.out.trans (HK.out.2.2.mono (Nat.le_trans HBase.out (Nat.le_of_lt HG)))).setCell HBase.out _
end Go.Proofs.Ytebfjphmlggacaa.Sp
