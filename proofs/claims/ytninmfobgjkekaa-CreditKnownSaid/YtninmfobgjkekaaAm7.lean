/- append, bytes as a string and a comparison with nil over the abstract memory; one operation as a whole. Conditions: as each theorem lists them. -/
import Derived.Test.YtninmfobgjkekaaAm6
set_option linter.unusedSimpArgs false
set_option linter.unusedVariables false
namespace Go.Am
open Go Go.RowKit

variable {P : Program} {G : Nat} {w0 w : World} {c : Ctx} {g : Gh} {S S' : St} {a ac : Act} {o : Oper} {v : Value}

theorem need_run (hR : Rel G w0 c g S w) {b off n size : Nat} {olds : List Value} (h : need S b off n size = some olds) {x u : Value} {k : Nat} (e : x = .slice (some ⟨b, off, none⟩) n k) (hx : VR c x u) :
    ∃ ad cap os, u = .slice ad n cap ∧ n ≤ cap ∧ (k ≠ 0 → k = cap + 1) ∧ (∀ w', (∀ p, w'.cell? p = w.cell? p) → (Builtin.firstCells size n (.slice ad n cap)).run P w' = .ok (List.toArray os) w') ∧ os.length = olds.length ∧ olds.length = n * size ∧
      ∀ (i : Nat) (v u : Value), olds[i]? = some v → os[i]? = some u → VR c v u := by
  subst e
  unfold need at h
  split at h
  · rename_i hn
    subst hn
    cases h
    cases hx with
    | slice _ _ _ _ m hb hn hk => exact ⟨_, m, [], rfl, hn, by omega, fun w' _ => by simp [Builtin.firstCells, loadCells, loadCellsFrom], rfl, by simp, fun i v u h _ => by simp at h⟩
    | empty _ _ _ ad hb hk => exact ⟨_, 0, [], rfl, by omega, by omega, fun w' _ => by simp [Builtin.firstCells, loadCells, loadCellsFrom], rfl, by simp, fun i v u h _ => by simp at h⟩
  · rename_i hn
    obtain ⟨hb, hll, us, hul, hcell, hvr⟩ := hR.rd h
    cases hx with
    | slice _ _ _ _ m hb hn hk =>
      exact ⟨_, m, us, rfl, hn, by omega, fun w' hw => run_firstCells_some (P := P) w' size n ⟨(c.loc b).1, (c.loc b).2 + off, none⟩ n m us hul (fun j u hu => by rw [hw, Addr.add_lit]; exact hcell j u hu), by omega, hll, hvr⟩
    | empty => exact absurd rfl hn

theorem app_done (h : Pre G w0 c g S w a ac o) (s x : Operand) (t tx : TypeId) (ho : o.op = .call { callee := .builtin .append, args := #[s, x], argTypes := #[t, tx] }) (hv : appA P S t tx (a.eval s) (a.eval x) = some (v, S')) : Done P G w0 ac o c w v S' := by
  have hs := arg_ev h ho (x := s) (by simp)
  have hx := arg_ev h ho (x := x) (by simp)
  unfold appA at hv
  split at hv
  · rename_i e hu
    split at hv
    · rename_i i hi
      split at hv
      · rename_i z m news hz hnews
        obtain ⟨us, hn⟩ := news_run h.rel hx hnews
        split at hv
        · rename_i hsz
          obtain ⟨hsz, hpos⟩ := hsz
          have fin : ∀ {u w' c' g'} , (Builtin.append_ #[t, tx] o.type #[ac.eval s, ac.eval x]).run P w = .ok u w' → c.le c' → Rel G w0 c' g' S' w' → VR c' v u → Done P G w0 ac o c w v S' := fun hr hc hR hvr =>
            builtin_done ho (s := Builtin.append_ #[t, tx] o.type #[ac.eval s, ac.eval x]) (fun cs => by simp [builtin]) hr hc hR hvr
          have hge := grownCap_ge w
          split at hv
          · -- a nil slice
            rename_i hsv
            rw [hsv] at hs
            generalize hsu : ac.eval s = su at hs
            cases hs
            split at hv
            · rename_i hm
              subst hm
              cases hv
              have : us = [] := by
                have := hn.same
                have h0 := hn.first
                have hl : news = [] := by
                  unfold newsA at hnews
                  split at hnews
                  · cases hnews; rfl
                  · split at hnews
                    · cases hnews; rfl
                    · rename_i hne
                      rw [Option.map_eq_some_iff] at hnews
                      obtain ⟨l, _, he⟩ := hnews
                      cases he; exact absurd rfl hne
                  · rename_i sb _ _
                    simp only [Option.some.injEq, Prod.mk.injEq] at hnews
                    rw [← hnews.2]
                    have : sb.data.toList.length = 0 := hnews.1
                    simp [strCells, List.eq_nil_of_length_eq_zero this]
                  · cases hnews
                rw [hl] at this
                exact List.eq_nil_of_length_eq_zero (by simpa using this)
              refine fin (u := .slice none 0 0) ?_ (Ctx.le.refl _) h.rel (by rw [hsv]; exact .slice0)
              rw [hsu]
              exact append_nothing hu hi (Nat.le_refl _) hn this _
            · rename_i hm
              split at hv
              · rename_i hcnd
                obtain ⟨hby, h63, hln⟩ := hcnd
                split at hv
                · rename_i b S1 hal
                  cases hv
                  have hg := append_grow (P := P) (w := w) (olds := []) hu hi hz (ad := none) (n := 0) (cap := 0) (by omega) hn (by simp [Builtin.firstCells]) (by simpa using hby) (by omega) o.type
                  simp only [Nat.zero_add] at hg
                  have hcs := cap_bound (n := 0) (m := m) (cap := grownCap w m 0 e) hsz [] us (by simp) (by rw [hn.same, hln]) (by have := hge m 0 e; omega)
                  simp only [Nat.zero_add] at hcs
                  obtain ⟨rfl, c', g', hle, hcn, hloc, hes, hcz, hR'⟩ := h.rel.drew.alloc hal (cur := ([] : List Value).toArray ++ us.toArray ++ Builtin.zeroCells z.cells (grownCap w m 0 e - m)) (e := e)
                    (by rw [hcs, hln]; exact Nat.mul_le_mul_right _ (by have := hge m 0 e; omega)) (fun j x y hx hy => by
                      have hj : j < us.length := by rw [hn.same]; exact (List.getElem?_eq_some_iff.1 hx).1
                      rw [Array.getElem?_append_left (by simpa using hj)] at hy
                      exact hn.rel j x y hx (by simpa using hy))
                  simp only [World.size_drew] at hloc hcz
                  refine fin (by rw [hsu]; exact hg) hle hR' ?_
                  have hvr := VR.slice (c := c') c.n 0 m 0 (grownCap w m 0 e) (by omega) (by have := hge m 0 e; omega) (.inl rfl) (by rw [hloc, hes]; simp only; rw [hcz, hcs]; omega)
                  rw [hloc] at hvr
                  exact hvr
                · cases hv
              · cases hv
          · -- another one
            rename_i b off n k hsv
            split at hv
            · rename_i hm
              subst hm
              cases hv
              have : us = [] := by
                have := hn.same
                have hl : news = [] := by
                  unfold newsA at hnews
                  split at hnews
                  · cases hnews; rfl
                  · split at hnews
                    · cases hnews; rfl
                    · rename_i hne
                      rw [Option.map_eq_some_iff] at hnews
                      obtain ⟨l, _, he⟩ := hnews
                      cases he; exact absurd rfl hne
                  · rename_i sb _ _
                    simp only [Option.some.injEq, Prod.mk.injEq] at hnews
                    rw [← hnews.2]
                    have : sb.data.toList.length = 0 := hnews.1
                    simp [strCells, List.eq_nil_of_length_eq_zero this]
                  · cases hnews
                rw [hl] at this
                exact List.eq_nil_of_length_eq_zero (by simpa using this)
              have hs2 := hs
              rw [hsv] at hs2
              generalize hsu : ac.eval s = su at hs2
              cases hs2 with
              | slice _ _ _ _ cap hb hnc =>
                refine fin (by rw [hsu]; exact append_nothing hu hi hnc hn this _) (Ctx.le.refl _) h.rel (by rw [hsu] at hs; exact hs)
              | empty =>
                refine fin (by rw [hsu]; exact append_nothing hu hi (Nat.le_refl _) hn this _) (Ctx.le.refl _) h.rel (by rw [hsu] at hs; exact hs)
            · rename_i hm
              split at hv
              · rename_i hcnd
                obtain ⟨hby, h63, hln⟩ := hcnd
                have hlu : us.length = m * i.size := by rw [hn.same, hln]
                split at hv
                · rename_i kb hkb
                  split at hv
                  · -- it surely grows
                    rename_i hk
                    split at hv
                    · rename_i olds hol
                      split at hv
                      · rename_i b1 S1 hal
                        cases hv
                        obtain ⟨ad, cap, os, hsu, hnc, hkc, hfirst, hos, hol2, horel⟩ := need_run (P := P) h.rel hol hsv hs
                        have hkc2 := hkc hk.1
                        have hg := append_grow (P := P) (w := w) (olds := os) hu hi hz (ad := ad) (n := n) (cap := cap) (by omega) hn (hfirst w.drew (fun _ => rfl)) hby h63 o.type
                        have hcs := cap_bound (n := n) (m := m) (cap := grownCap w (n + m) cap e) hsz os us (by rw [hos, hol2]) hlu (hge (n + m) cap e)
                        obtain ⟨rfl, c', g', hle, hcn, hloc, hes, hcz, hR'⟩ := h.rel.drew.alloc hal (cur := os.toArray ++ us.toArray ++ Builtin.zeroCells z.cells (grownCap w (n + m) cap e - (n + m))) (e := e)
                          (by rw [hcs, List.length_append, hol2, hln, ← Nat.add_mul]; exact Nat.mul_le_mul_right _ (hge (n + m) cap e)) (fun j x y hx hy => by
                            have hj : j < (olds ++ news).length := (List.getElem?_eq_some_iff.1 hx).1
                            rw [List.length_append] at hj
                            have hsame := hn.same
                            rw [Array.getElem?_append_left (by simp; omega)] at hy
                            rw [List.getElem?_append] at hx
                            rw [Array.getElem?_append] at hy
                            simp only [List.size_toArray, List.getElem?_toArray] at hy
                            rw [hos] at hy
                            split at hx
                            · rename_i hjo; rw [if_pos hjo] at hy; exact horel j x y hx hy
                            · rename_i hjo; rw [if_neg hjo] at hy; exact hn.rel _ x y hx hy)
                        simp only [World.size_drew] at hloc hcz
                        refine fin (by rw [hsu]; exact hg) hle hR' ?_
                        have hvr := VR.slice (c := c') c.n 0 (n + m) 0 (grownCap w (n + m) cap e) (by omega) (hge (n + m) cap e) (.inl rfl) (by rw [hloc, hes]; simp only; rw [hcz, hcs]; omega)
                        rw [hloc] at hvr
                        exact hvr
                      · cases hv
                    · cases hv
                  · rename_i hk
                    split at hv
                    · rename_i hksz
                      split at hv
                      · rename_i b1 S1 hgr
                        cases hv
                        obtain ⟨f, cur0, e0, fr, ok⟩ := h.rel.blk b kb hkb
                        have hesb : c.es b = i.size := ok.es.trans hksz
                        have hs2 := hs
                        rw [hsv] at hs2
                        -- the cells that are there
                        have hold : n = 0 ∨ ∃ olds, S.rd b off (n * i.size) = some olds := by
                          unfold St.grow at hgr
                          rw [hkb] at hgr
                          simp only [ok.fam] at hgr
                          split at hgr
                          · rename_i hc1
                            right
                            refine ⟨_, by simp [St.rd, St.live, hkb, ok.fam, hc1.1, hc1.2.2.1]; rfl⟩
                          · cases hgr
                        obtain ⟨olds, hol⟩ : ∃ olds, need S b off n i.size = some olds := by
                          rcases hold with h0 | ⟨olds, h0⟩
                          · exact ⟨[], by simp [need, h0]⟩
                          · by_cases hn0 : n = 0
                            · exact ⟨[], by simp [need, hn0]⟩
                            · exact ⟨olds, by simp [need, hn0, h0]⟩
                        obtain ⟨ad, cap, os, hsu, hnc, hkc, hfirst, hos, hol2, horel⟩ := need_run (P := P) h.rel hol hsv hs
                        by_cases hroom : n + m ≤ cap
                        · -- there is room
                          rw [hsu] at hs2
                          cases hs2 with
                          | slice _ _ _ _ _ hb _ _ hcap =>
                            rw [hesb] at hcap
                            have hmul : (n + m) * i.size ≤ cap * i.size := Nat.mul_le_mul_right _ hroom
                            rw [Nat.add_mul] at hmul
                            obtain ⟨rfl, hone, hb, cur, e1, hheap, hcsz, c', g', hle, hcn, hloc, hes, hcz, hR'⟩ := h.rel.grow_in hgr hn.same hn.rel (by rw [hlu]; omega)
                            have hr := append_room (P := P) (w := w) hu hi (gb := (c.loc b).1) (o := (c.loc b).2 + off) (n := n) (cap := cap) hroom hn hheap (by rw [hlu]; omega) (list_one hn.same hn.rel hone) o.type
                            refine fin (by rw [hsu]; exact hr) hle hR' ?_
                            have hvr := VR.slice (c := c') c.n 0 (n + m) 0 cap (by omega) hroom (.inl rfl) (by rw [hloc, hes, hcz, hesb]; simp only; omega)
                            rw [hloc, Nat.add_zero] at hvr
                            exact hvr
                          | empty => omega
                        · -- it grows
                          have hg := append_grow (P := P) (w := w) (olds := os) hu hi hz (ad := ad) (n := n) (cap := cap) (by omega) hn (hfirst w.drew (fun _ => rfl)) hby h63 o.type
                          have hcs := cap_bound (n := n) (m := m) (cap := grownCap w (n + m) cap e) hsz os us (by rw [hos, hol2]) hlu (hge (n + m) cap e)
                          obtain ⟨rfl, hone, hb, c', g', hle, hcn, hloc, hes, hcz, hR'⟩ := h.rel.drew.grow_new hgr (cur := os.toArray ++ us.toArray ++ Builtin.zeroCells z.cells (grownCap w (n + m) cap e - (n + m))) (e := e) os us (by rw [hos, hol2]) hn.same
                            (fun j x y hj hx hy => by
                              obtain ⟨k1, hk1, hx⟩ := hx
                              by_cases hn0 : n = 0
                              · rw [hn0] at hj; omega
                              · simp only [need, hn0, if_false, St.rd, hk1] at hol
                                split at hol
                                · cases hol
                                  exact horel j x y (by rw [List.getElem?_take, if_pos hj, List.getElem?_drop]; exact hx) hy
                                · cases hol) hn.rel (fun j hj => by
                              rw [Array.getElem?_append_left (by simp; omega)]
                              simp)
                          simp only [World.size_drew] at hloc hcz
                          refine fin (by rw [hsu]; exact hg) hle hR' ?_
                          have hvr := VR.slice (c := c') c.n 0 (n + m) 0 (grownCap w (n + m) cap e) (by omega) (hge (n + m) cap e) (.inl rfl) (by rw [hloc, hes, hesb]; simp only; rw [hcz, hcs]; omega)
                          rw [hloc] at hvr
                          exact hvr
                      · cases hv
                    · cases hv
                · cases hv
              · cases hv
          · cases hv
        · cases hv
      · cases hv
    · cases hv
  · cases hv

end Go.Am
