/- SpansIsSet: the walk. Conditions: the calls' row is an argument's. -/
import Derived.Test.YtegfaecbealnhabI2
import Derived.Test.YtegfaecbealnhabKn1
import Derived.Deep.MidRow
import Derived.BigGuardPart
namespace Go.Proofs.Ytegfaecbealnhab.IsSet
open Go Go.RowKit

/-- The set and the truth values, at the first loop's head. -/
def St1 (ps pa : Nat) (w wr : World) : Prop := ∃ es bs, SetIn wr ps es ∧ ArrB wr pa bs ∧ Sm 70 es ∧ Says es bs ∧ Below ps w wr

/-- Both, the set and the truth values known. -/
def Held (ps pa : Nat) (w wr : World) (es : List Int) (bs : List Bool) : Prop := SetIn wr ps es ∧ ArrB wr pa bs ∧ Below ps w wr
theorem Held.below {ps pa : Nat} {w wr wy : World} {es : List Int} {bs : List Bool} (h : Held ps pa w wr es bs) (hb : Below wr.heap.size wr wy) : Held ps pa w wy es bs :=
  ⟨h.1.below hb, h.2.1.below h.2.1.lt hb, h.2.2.trans (hb.mono (Nat.le_of_lt h.1.lt))⟩
theorem Held.drew {ps pa : Nat} {w wr : World} {es : List Int} {bs : List Bool} (h : Held ps pa w wr es bs) : Held ps pa w wr.drew es bs := h.below (Below.refl _ _).drew

/-- Behind k gaps. -/
def GapI (ps pa pt : Nat) (w wr : World) (es : List Int) (bs : List Bool) (gs : List Int) (Ag : Option Addr) (M k : Nat) : Prop :=
  ∃ et, SetIn wr pt et ∧ Sm 70 et ∧ (∀ n, mem et n = (mem es n || ((prs gs).take k).any (inRun n))) ∧ Held ps pa w wr es bs ∧ Rd wr wr.heap.size Ag (M * 2) (ints gs)

set_option maxRecDepth 100000 in
set_option maxHeartbeats 16000000 in
theorem walk (A : Option Addr) (n cap : Nat) (zs : List Int) (from_ to_ : Int) (w : World) (hr : IsRows w A cap n 3 zs) :
    Calls Try.prog 5 #[.slice A n cap, .int .i64 from_, .int .i64 to_] w fun e w' => e = .returned (.bool true) ∧ Below w.heap.size w w' := by
  have HR := Lib.hid hr
  have hncap := hr.cap
  have hnI : (n : Int) ≤ 17592186044416 := by have := hr.reach; omega
  have hncI : (n : Int) ≤ (cap : Int) := by omega
  clear hr
  go_enter Try.func5, Try.ntmps5
  go_wp2_with fail
  obtain ⟨w0, hw0⟩ : ∃ w0, (w.alloc (.cells #[.slice none 0 0] 24)).alloc (.cells Try.zeroCells48 48) = w0 := ⟨_, rfl⟩
  have HI0 : Hid (St1 w.heap.size (w.heap.size + 1) w w0) := by
    have s0 := set_new w
    have a0 := arr_new (w.alloc (.cells #[.slice none 0 0] 24))
    have al := fun (W : World) (o : Obj) => (Below.refl W.heap.size W).alloc (Nat.le_refl _) o
    rw [← hw0]
    exact ⟨[], _, s0.below (al _ _), by simpa using a0, Sm.nil _, says_new, (al w _).alloc (by simp) _⟩
  rw [hw0]
  clear hw0
  obtain ⟨pa, hpa⟩ : ∃ p, Hid (w.heap.size + 1 = p) := ⟨_, rfl⟩
  rw [hpa.out] at HI0 ⊢
  obtain ⟨ps, hps⟩ : ∃ p, Hid (w.heap.size = p) := ⟨_, rfl⟩
  rw [hps.out] at HI0 ⊢
  have hpp : Hid (ps < pa) := by have := hps.out; have := hpa.out; show _ < _; omega
  go_loopw [27] (fun i wr => ∃ j : Nat, j ≤ n ∧ i = .int .i64 j ∧ Hid (St1 ps pa w wr)) (fun i _ => n - (intOf i).toNat)
  case atStart => exact ⟨0, Nat.zero_le _, rfl, HI0⟩
  case round =>
    clear HI0
    obtain ⟨j, hj, rfl, HK⟩ := hrel
    by_cases hjn : j < n
    · have hjnI : (j : Int) < (n : Int) := by omega
      obtain ⟨es, bs, hse, har, hsm, hsays, hbe⟩ := HK.out
      have HSm := Lib.hid hsm
      have HSays := Lib.hid (And.intro hsays trivial)
      obtain ⟨b, off, hA, hbn, hcs⟩ := HR.out.rd.2 (by omega)
      subst hA
      have hzl := HR.out.len
      have hrd : ∀ q v, q < n * 3 → zs.getD q 0 = v → wr.cell? ⟨b, off + q, none⟩ = some (.int .i64 v) := fun q v hq hv => by
        rw [hbe.cell (p := ⟨b, off + q, none⟩) (show b < ps by have := hps.out; omega), hcs q _ (ints_get zs q (by omega)), hv]
      obtain ⟨x0, hx0⟩ : ∃ v, Hid (zs.getD (j * 3) 0 = v) := ⟨_, rfl⟩
      obtain ⟨x1, hx1⟩ : ∃ v, Hid (zs.getD (j * 3 + 1) 0 = v) := ⟨_, rfl⟩
      obtain ⟨x2, hx2⟩ : ∃ v, Hid (zs.getD (j * 3 + 2) 0 = v) := ⟨_, rfl⟩
      have cx0 := hrd (j * 3) x0 (by omega) hx0.out
      have cx1 : wr.cell? ⟨b, off + j * 3 + 1, none⟩ = some (.int .i64 x1) := hrd (j * 3 + 1) x1 (by omega) hx1.out
      have cx2 : wr.cell? ⟨b, off + j * 3 + 2, none⟩ = some (.int .i64 x2) := hrd (j * 3 + 2) x2 (by omega) hx2.out
      have hwsz : Hid (ps < wr.heap.size ∧ pa < wr.heap.size) := ⟨hse.lt, har.lt⟩
      obtain ⟨fa, hfa⟩ : ∃ f : Nat, x1 % 64 = (f : Int) := ⟨(x1 % 64).toNat, by omega⟩
      obtain ⟨fb, hfb⟩ : ∃ f : Nat, x2 % 66 = (f : Int) := ⟨(x2 % 66).toNat, by omega⟩
      obtain ⟨fd, hfd⟩ : ∃ f : Nat, x0 % 3 = (f : Int) := ⟨(x0 % 3).toNat, by omega⟩
      have hfa64 : fa < 64 := by omega
      have hfb66 : fb < 66 := by omega
      have P1 : Hid (∀ W, Calls Try.prog 29 #[.int .i64 x1, .int .i64 64] W fun e w' => e = .returned (.int .i64 (fa : Int)) ∧ W = w') := fun W => by have := pick_any x1 64 W (by decide) (by decide); rwa [hfa] at this
      have P2 : Hid (∀ W, Calls Try.prog 29 #[.int .i64 x2, .int .i64 66] W fun e w' => e = .returned (.int .i64 (fb : Int)) ∧ W = w') := fun W => by have := pick_any x2 66 W (by decide) (by decide); rwa [hfb] at this
      have P0 : Hid (∀ W, Calls Try.prog 29 #[.int .i64 x0, .int .i64 3] W fun e w' => e = .returned (.int .i64 (fd : Int)) ∧ W = w') := fun W => by have := pick_any x0 3 W (by decide) (by decide); rwa [hfd] at this
      have HV0 := Lib.hid (And.intro hse (And.intro har hbe))
      clear hfa hfb hfd hcs hrd hse har hsm hsays hbe HK
      by_cases hd : (fd : Int) = 0
      · go_wp2_with (go_at_call 29; (with_reducible first | refine (P1.out _).mono ?_ | refine (P2.out _).mono ?_ | refine (P0.out _).mono ?_); rintro e w' ⟨rfl, rfl⟩)
        obtain ⟨wv, hwv⟩ : ∃ wv, wr.alloc (.cells #[.int .i64 x0, .int .i64 x1, .int .i64 x2] 45) = wv := ⟨_, rfl⟩
        have HV : Hid (SetIn wv ps es ∧ ArrB wv pa bs ∧ Below ps w wv) := by
          have hb := (Below.refl wr.heap.size wr).alloc (Nat.le_refl _) (.cells #[.int .i64 x0, .int .i64 x1, .int .i64 x2] 45)
          rw [← hwv]
          exact ⟨HV0.out.1.below hb, HV0.out.2.1.below hwsz.out.2 hb, HV0.out.2.2.trans (hb.mono (by have := hwsz.out.1; omega))⟩
        rw [hwv]
        clear hwv HV0 cx0 cx1 cx2
        refine (drop_any _ ps fa fb wv HV.out.1 (by have := HSm.out.len; omega)).mono ?_
        rintro e wy ⟨rfl, h1, h2⟩
        have HY : Hid (SetIn wy ps (turn es fa fb false) ∧ ArrB wy pa bs ∧ Below ps w wy) := ⟨h1, HV.out.2.1.but h2 (by have := hpp.out; omega), HV.out.2.2.trans (grown_below h2 (by have := HV.out.1.lt; omega) (Nat.le_refl _))⟩
        have hT : Hid (Sm 70 (turn es fa fb false) ∧ (∀ n, ((fa : Int) ≤ n ∧ n < (fb : Int)) → mem (turn es fa fb false) n = false) ∧ ∀ n, ¬ ((fa : Int) ≤ n ∧ n < (fb : Int)) → mem (turn es fa fb false) n = mem es n) := by
          refine ⟨HSm.out.turn _ _ _ (by omega) (by omega), fun n hn => ?_, fun n hn => ?_⟩
          · rw [mem_turn _ _ _ _ HSm.out.1, clamp_small _ (by omega) (by omega), clamp_small _ (by omega) (by omega), if_pos hn]
          · rw [mem_turn _ _ _ _ HSm.out.1, clamp_small _ (by omega) (by omega), clamp_small _ (by omega) (by omega), if_neg hn]
        obtain ⟨es', hes'⟩ : ∃ es', turn es fa fb false = es' := ⟨_, rfl⟩
        rw [hes'] at HY hT
        clear hes' h1 h2 HV
        obtain ⟨wi, hwi⟩ : ∃ wi, wy = wi := ⟨_, rfl⟩
        subst hwi
        go_wp2_with fail
        go_loopw [14] (fun i wq => ∃ k : Nat, fa ≤ k ∧ k ≤ max fa fb ∧ i = .int .i64 k ∧ Hid (∃ bs', SetIn wq ps es' ∧ ArrB wq pa bs' ∧ SaysTo es es' fa k bs' ∧ Below ps w wq)) (fun i _ => max fa fb - (intOf i).toNat)
        case atStart => exact ⟨fa, Nat.le_refl _, by omega, rfl, bs, HY.out.1, HY.out.2.1, SaysTo.start HSays.out.1 _, HY.out.2.2⟩
        case round =>
          obtain ⟨k, hk1, hk2, rfl, HK2⟩ := hrel
          clear HY
          by_cases hkb : k < fb
          · have hkbI : (k : Int) < (fb : Int) := by omega
            obtain ⟨bs', s1, s2, s3, s4⟩ := HK2.out
            have hk70 : k < 70 := by omega
            have hk70I : (k : Int) < 70 := by omega
            have k1 := s2.cell k hk70
            have k2 := s2.free k
            obtain ⟨vb, hvb⟩ : ∃ v, bs'.getD k false = v := ⟨_, rfl⟩
            rw [hvb] at k1
            obtain ⟨wo, hwo⟩ : ∃ wo, wr = wo := ⟨_, rfl⟩
            subst hwo
            have HN : Hid (∃ bs'', SetIn (wr.setCell ⟨pa, k, none⟩ (.bool false)) ps es' ∧ ArrB (wr.setCell ⟨pa, k, none⟩ (.bool false)) pa bs'' ∧ SaysTo es es' fa ((k : Int) + 1) bs'' ∧ Below ps w (wr.setCell ⟨pa, k, none⟩ (.bool false))) :=
              ⟨_, set_arr s1 (ArrB.grown k false) s2 (by have := hpp.out; omega), s2.put k false, s3.step s2.1 false (by omega) (hT.out.2.1 _ (by omega)), s4.setCell (by have := hpp.out; show _ ≤ pa; omega) _⟩
            clear s1 s2 s3 s4 HK2 hvb
            go_wp2_with fail
            go_roundw
            case rel => exact ⟨k + 1, by omega, by omega, by go_num, HN⟩
            case measure => simp [intOf]; omega
          · have hkbI : ¬ (k : Int) < (fb : Int) := by omega
            obtain ⟨bs', s1, s2, s3, s4⟩ := HK2.out
            have HN : Hid (St1 ps pa w wr) := ⟨es', bs', s1, s2, hT.out.1, s3.done (by omega) hT.out.2.2, s4⟩
            clear s1 s2 s3 s4 HK2
            obtain ⟨wo, hwo⟩ : ∃ wo, wr = wo := ⟨_, rfl⟩
            subst hwo
            go_wp2_with fail
            go_roundw
            case rel => exact ⟨j + 1, by omega, by go_num, HN⟩
            case measure => simp [intOf]; omega
      · go_wp2_with (go_at_call 29; (with_reducible first | refine (P1.out _).mono ?_ | refine (P2.out _).mono ?_ | refine (P0.out _).mono ?_); rintro e w' ⟨rfl, rfl⟩)
        obtain ⟨wv, hwv⟩ : ∃ wv, wr.alloc (.cells #[.int .i64 x0, .int .i64 x1, .int .i64 x2] 45) = wv := ⟨_, rfl⟩
        have HV : Hid (SetIn wv ps es ∧ ArrB wv pa bs ∧ Below ps w wv) := by
          have hb := (Below.refl wr.heap.size wr).alloc (Nat.le_refl _) (.cells #[.int .i64 x0, .int .i64 x1, .int .i64 x2] 45)
          rw [← hwv]
          exact ⟨HV0.out.1.below hb, HV0.out.2.1.below hwsz.out.2 hb, HV0.out.2.2.trans (hb.mono (by have := hwsz.out.1; omega))⟩
        rw [hwv]
        clear hwv HV0 cx0 cx1 cx2
        refine (add_any _ ps fa fb wv HV.out.1 (by have := HSm.out.len; omega)).mono ?_
        rintro e wy ⟨rfl, h1, h2⟩
        have HY : Hid (SetIn wy ps (turn es fa fb true) ∧ ArrB wy pa bs ∧ Below ps w wy) := ⟨h1, HV.out.2.1.but h2 (by have := hpp.out; omega), HV.out.2.2.trans (grown_below h2 (by have := HV.out.1.lt; omega) (Nat.le_refl _))⟩
        have hT : Hid (Sm 70 (turn es fa fb true) ∧ (∀ n, ((fa : Int) ≤ n ∧ n < (fb : Int)) → mem (turn es fa fb true) n = true) ∧ ∀ n, ¬ ((fa : Int) ≤ n ∧ n < (fb : Int)) → mem (turn es fa fb true) n = mem es n) := by
          refine ⟨HSm.out.turn _ _ _ (by omega) (by omega), fun n hn => ?_, fun n hn => ?_⟩
          · rw [mem_turn _ _ _ _ HSm.out.1, clamp_small _ (by omega) (by omega), clamp_small _ (by omega) (by omega), if_pos hn]
          · rw [mem_turn _ _ _ _ HSm.out.1, clamp_small _ (by omega) (by omega), clamp_small _ (by omega) (by omega), if_neg hn]
        obtain ⟨es', hes'⟩ : ∃ es', turn es fa fb true = es' := ⟨_, rfl⟩
        rw [hes'] at HY hT
        clear hes' h1 h2 HV
        obtain ⟨wi, hwi⟩ : ∃ wi, wy = wi := ⟨_, rfl⟩
        subst hwi
        go_wp2_with fail
        go_loopw [14] (fun i wq => ∃ k : Nat, fa ≤ k ∧ k ≤ max fa fb ∧ i = .int .i64 k ∧ Hid (∃ bs', SetIn wq ps es' ∧ ArrB wq pa bs' ∧ SaysTo es es' fa k bs' ∧ Below ps w wq)) (fun i _ => max fa fb - (intOf i).toNat)
        case atStart => exact ⟨fa, Nat.le_refl _, by omega, rfl, bs, HY.out.1, HY.out.2.1, SaysTo.start HSays.out.1 _, HY.out.2.2⟩
        case round =>
          obtain ⟨k, hk1, hk2, rfl, HK2⟩ := hrel
          clear HY
          by_cases hkb : k < fb
          · have hkbI : (k : Int) < (fb : Int) := by omega
            obtain ⟨bs', s1, s2, s3, s4⟩ := HK2.out
            have hk70 : k < 70 := by omega
            have hk70I : (k : Int) < 70 := by omega
            have k1 := s2.cell k hk70
            have k2 := s2.free k
            obtain ⟨vb, hvb⟩ : ∃ v, bs'.getD k false = v := ⟨_, rfl⟩
            rw [hvb] at k1
            obtain ⟨wo, hwo⟩ : ∃ wo, wr = wo := ⟨_, rfl⟩
            subst hwo
            have HN : Hid (∃ bs'', SetIn (wr.setCell ⟨pa, k, none⟩ (.bool true)) ps es' ∧ ArrB (wr.setCell ⟨pa, k, none⟩ (.bool true)) pa bs'' ∧ SaysTo es es' fa ((k : Int) + 1) bs'' ∧ Below ps w (wr.setCell ⟨pa, k, none⟩ (.bool true))) :=
              ⟨_, set_arr s1 (ArrB.grown k true) s2 (by have := hpp.out; omega), s2.put k true, s3.step s2.1 true (by omega) (hT.out.2.1 _ (by omega)), s4.setCell (by have := hpp.out; show _ ≤ pa; omega) _⟩
            clear s1 s2 s3 s4 HK2 hvb
            go_wp2_with fail
            go_roundw
            case rel => exact ⟨k + 1, by omega, by omega, by go_num, HN⟩
            case measure => simp [intOf]; omega
          · have hkbI : ¬ (k : Int) < (fb : Int) := by omega
            obtain ⟨bs', s1, s2, s3, s4⟩ := HK2.out
            have HN : Hid (St1 ps pa w wr) := ⟨es', bs', s1, s2, hT.out.1, s3.done (by omega) hT.out.2.2, s4⟩
            clear s1 s2 s3 s4 HK2
            obtain ⟨wo, hwo⟩ : ∃ wo, wr = wo := ⟨_, rfl⟩
            subst hwo
            go_wp2_with fail
            go_roundw
            case rel => exact ⟨j + 1, by omega, by go_num, HN⟩
            case measure => simp [intOf]; omega
    · have hjnI : ¬ (j : Int) < (n : Int) := by omega
      obtain rfl : j = n := by omega
      obtain ⟨es, bs, hse, har, hsm, hsays, hbe⟩ := HK.out
      have HSm := Lib.hid hsm
      have HSays := Lib.hid (And.intro hsays trivial)
      have HV : Hid (Held ps pa w wr es bs) := ⟨hse, har, hbe⟩
      clear hse har hsm hsays hbe HK HR
      obtain ⟨wo, hwo⟩ : ∃ wo, wr = wo := ⟨_, rfl⟩
      subst hwo
      go_wp2_with fail
      go_loopw [15, 59] (fun c i wq => ∃ k cc : Nat, k ≤ 70 ∧ c = .int .i64 (cc : Int) ∧ i = .int .i64 k ∧ Hid (Held ps pa w wq es bs) ∧ Hid (cc = card k (mem es)) ∧ cc ≤ k) (fun _ i _ => 70 - (intOf i).toNat)
      case atStart => exact ⟨0, 0, by omega, rfl, rfl, HV, rfl, Nat.le_refl _⟩
      case round =>
        obtain ⟨k, cc, hk, rfl, rfl, HK2, HC, hcc⟩ := hrel
        clear HV
        by_cases hk7 : k < 70
        · have hk7I : (k : Int) < 70 := by omega
          have k1 := HK2.out.2.1.cell k hk7
          rw [HSays.out.1 k hk7] at k1
          have H1 : Hid (∀ wx, (wx.cell? ⟨pa, k, none⟩ = some (.bool (mem es k)) ∧ Held ps pa w wx es bs) → Calls Try.prog 26 #[.pointer (some ⟨ps, 0, none⟩), .int .i64 (k : Int)] wx fun e w' => e = .returned (.bool (mem es k)) ∧ w'.cell? ⟨pa, k, none⟩ = some (.bool (mem es k)) ∧ Held ps pa w w' es bs) := fun wx h => by
            refine (has_in es ps k wx h.2.1 (by have := HSm.out.len; omega)).mono ?_
            rintro e w' ⟨rfl, hb⟩
            have h2 := h.2.below hb
            exact ⟨rfl, by rw [h2.2.1.cell k hk7, HSays.out.1 k hk7], h2⟩
          have HC2 := card_succ k (mem es)
          obtain ⟨v, hv⟩ : ∃ v, mem es k = v := ⟨_, rfl⟩
          rw [hv] at k1 H1 HC2
          have HC3 := Lib.hid HC2
          clear HC2 hv
          obtain ⟨wo, hwo⟩ : ∃ wo, wr = wo := ⟨_, rfl⟩
          subst hwo
          cases v
          · go_wp2_with fail
            go_region_held3 (fun wx => wx.cell? ⟨pa, k, none⟩ = some (.bool false) ∧ Held ps pa w wx es bs) (first | exact ⟨k1, HK2.out.drew⟩ | assumption) (first | (go_at_call 26; refine (H1.out _ (by assumption)).mono ?_; rintro e w' ⟨rfl, hS⟩))
            clear k1 HK2
            go_wp2_with fail
            go_roundw
            case rel => exact ⟨k + 1, cc, by omega, by go_num, by go_num, hS.2, by show _ = _; rw [HC3.out, HC.out]; rfl, by omega⟩
            case measure => simp [intOf]; omega
          · go_wp2_with fail
            go_region_held3 (fun wx => wx.cell? ⟨pa, k, none⟩ = some (.bool true) ∧ Held ps pa w wx es bs) (first | exact ⟨k1, HK2.out.drew⟩ | assumption) (first | (go_at_call 26; refine (H1.out _ (by assumption)).mono ?_; rintro e w' ⟨rfl, hS⟩))
            clear k1 HK2
            go_wp2_with fail
            go_roundw
            case rel => exact ⟨k + 1, cc + 1, by omega, by go_num, by go_num, hS.2, by show _ = _; rw [HC3.out, HC.out]; rfl, by omega⟩
            case measure => simp [intOf]; omega
        · have hk7I : ¬ (k : Int) < 70 := by omega
          obtain rfl : k = 70 := by omega
          have HCnt : Hid ((cc : Int) = cnt es) := by
            show _ = _
            rw [HC.out, cnt_card 70 es HSm.out.1.1 HSm.out.1.2.1 (fun e he => ⟨(HSm.out.1.2.2 e he).1, HSm.out.2 e he⟩)]
          clear HC
          obtain ⟨wo, hwo⟩ : ∃ wo, wr = wo := ⟨_, rfl⟩
          subst hwo
          go_wp2_with fail
          refine (spans_in es ps wr HK2.out.1 (by have := HSm.out.len; omega)).mono ?_
          rintro e w2 ⟨Al, cl, rfl, hcl, _, hrd, hb⟩
          obtain ⟨L, hL⟩ : ∃ L, Hid (es.length / 2 = L) := ⟨_, rfl⟩
          have he2 : Hid (es.length = L * 2) := by have := HSm.out.1.2.1; have := hL.out; show _ = _; omega
          rw [hL.out] at hrd hcl ⊢
          have HL : Hid (Held ps pa w w2 es bs ∧ Rd w2 w2.heap.size Al (L * 2) (ints es)) := ⟨HK2.out.below hb, hrd⟩
          have hLm : (L : Int) ≤ 71 := by have := HSm.out.len; have := he2.out; omega
          clear hb hrd HK2
          go_wp2_with fail
          go_loopw [77] (fun i wq => ∃ k : Nat, k ≤ L ∧ i = .int .i64 k ∧ Hid (Held ps pa w wq es bs ∧ Rd wq wq.heap.size Al (L * 2) (ints es))) (fun i _ => L - (intOf i).toNat)
          case atStart => exact ⟨0, Nat.zero_le _, rfl, HL⟩
          case round =>
            obtain ⟨k, hk, rfl, HK3⟩ := hrel
            clear HL
            by_cases hkL : k < L
            · have hkLI : (k : Int) < (L : Int) := by omega
              have hkcl : (k : Int) < (cl : Int) := by omega
              obtain ⟨b, off, hA, hbn, hcs⟩ := HK3.out.2.2 (by omega)
              subst hA
              have hrd : ∀ q v, q < L * 2 → es.getD q 0 = v → wr.cell? ⟨b, off + q, none⟩ = some (.int .i64 v) := fun q v hq hv => by
                rw [hcs q _ (ints_get es q (by have := he2.out; omega)), hv]
              obtain ⟨x, hx⟩ : ∃ v, Hid (es.getD (k * 2) 0 = v) := ⟨_, rfl⟩
              obtain ⟨y, hy⟩ : ∃ v, Hid (es.getD (k * 2 + 1) 0 = v) := ⟨_, rfl⟩
              have cx : wr.cell? ⟨b, off + k * 2, none⟩ = some (.int .i64 x) := hrd (k * 2) x (by omega) hx.out
              have cy : wr.cell? ⟨b, off + k * 2 + 1, none⟩ = some (.int .i64 y) := hrd (k * 2 + 1) y (by omega) hy.out
              have hxy : x < y := by
                have := get_mono HSm.out.1.1 (k * 2) (k * 2 + 1) (by omega) (by have := he2.out; omega)
                rwa [hx.out, hy.out] at this
              have hxy' : ¬ y ≤ x := by omega
              have nb := World.new_ne wr _ cx
              have hbw : b < wr.heap.size := World.block_lt_of_cell? wr _ cx
              have HN : Hid (Held ps pa w (wr.alloc (.cells #[.int .i64 x, .int .i64 y] 32)) es bs ∧ Rd (wr.alloc (.cells #[.int .i64 x, .int .i64 y] 32)) (wr.alloc (.cells #[.int .i64 x, .int .i64 y] 32)).heap.size (some ⟨b, off, none⟩) (L * 2) (ints es)) := by
                have hb := (Below.refl wr.heap.size wr).alloc (Nat.le_refl _) (.cells #[.int .i64 x, .int .i64 y] 32)
                exact ⟨HK3.out.1.below hb, (HK3.out.2.below hb (Nat.le_refl _)).more (by simp)⟩
              obtain ⟨wo, hwo⟩ : ∃ wo, wr = wo := ⟨_, rfl⟩
              subst hwo
              rcases k with _ | q
              · have cx' : wr.cell? ⟨b, off, none⟩ = some (.int .i64 x) := hrd 0 x (by omega) hx.out
                have cy' : wr.cell? ⟨b, off + 1, none⟩ = some (.int .i64 y) := hrd 1 y (by omega) hy.out
                clear hcs hrd cx cy
                go_wp2_with fail
                obtain ⟨wz, hwz⟩ : ∃ wz, wr.alloc (.cells #[.int .i64 x, .int .i64 y] 32) = wz := ⟨_, rfl⟩
                have kz0 : wz.cell? ⟨wr.heap.size, 0, none⟩ = some (.int .i64 x) := by rw [← hwz]; exact World.cell?_alloc_at _ _ _ _ rfl
                have kz1 : wz.cell? ⟨wr.heap.size, 1, none⟩ = some (.int .i64 y) := by rw [← hwz]; exact World.cell?_alloc_at _ _ _ _ rfl
                rw [hwz] at HN ⊢
                obtain ⟨pw, hpw⟩ : ∃ p, Hid (wr.heap.size = p) := ⟨_, rfl⟩
                rw [hpw.out] at kz0 kz1 ⊢
                clear hwz nb hbw HK3 cx' cy'
                have hxd : decide (y ≤ x) = false := decide_eq_false (by omega)
                go_quiet (fail)
                clear kz0 kz1
                go_wp2_with fail
                go_roundw
                case rel => exact ⟨1, by omega, by go_num, ⟨HN.out.1.below (Below.drewN' _ _ _), HN.out.2.below (Below.drewN' _ _ _) (Nat.le_refl _)⟩⟩
                case measure => simp [intOf]; omega
              · obtain ⟨z, hz⟩ : ∃ v, Hid (es.getD (q * 2 + 1) 0 = v) := ⟨_, rfl⟩
                have cz : wr.cell? ⟨b, off + q * 2 + 1, none⟩ = some (.int .i64 z) := hrd (q * 2 + 1) z (by omega) hz.out
                have hzx : z < x := by
                  have := get_mono HSm.out.1.1 (q * 2 + 1) ((q + 1) * 2) (by omega) (by have := he2.out; omega)
                  rwa [hx.out, hz.out] at this
                have hzx' : ¬ x ≤ z := by omega
                have hq1 : (0 : Int) < (q : Int) + 1 := by omega
                have hq0 : (0 : Int) ≤ (q : Int) := by omega
                have hqL : (q : Int) < (L : Int) := by omega
                have hqcl : (q : Int) < (cl : Int) := by omega
                clear hcs hrd
                go_wp2_with fail
                obtain ⟨wz, hwz⟩ : ∃ wz, wr.alloc (.cells #[.int .i64 x, .int .i64 y] 32) = wz := ⟨_, rfl⟩
                have kz0 : wz.cell? ⟨wr.heap.size, 0, none⟩ = some (.int .i64 x) := by rw [← hwz]; exact World.cell?_alloc_at _ _ _ _ rfl
                have kz1 : wz.cell? ⟨wr.heap.size, 1, none⟩ = some (.int .i64 y) := by rw [← hwz]; exact World.cell?_alloc_at _ _ _ _ rfl
                have kz2 : wz.cell? ⟨b, off + q * 2 + 1, none⟩ = some (.int .i64 z) := by rw [← hwz]; exact (World.cell?_alloc_past _ _ _ (by first | exact hbw | (show b ≠ _; omega) | (show b < _; omega))).trans cz
                rw [hwz] at HN ⊢
                obtain ⟨pw, hpw⟩ : ∃ p, Hid (wr.heap.size = p) := ⟨_, rfl⟩
                rw [hpw.out] at kz0 kz1 ⊢
                clear hwz nb hbw HK3 cx cy cz
                have hxd : decide (y ≤ x) = false := decide_eq_false (by omega)
                have hzd : decide (x ≤ z) = false := decide_eq_false (by omega)
                go_quiet (fail)
                clear kz0 kz1 kz2
                go_wp2_with fail
                go_roundw
                case rel => exact ⟨q + 1 + 1, by omega, by go_num, ⟨HN.out.1.below (Below.drewN' _ _ _), HN.out.2.below (Below.drewN' _ _ _) (Nat.le_refl _)⟩⟩
                case measure => simp [intOf]; omega
            · have hkLI : ¬ (k : Int) < (L : Int) := by omega
              obtain rfl : k = L := by omega
              have HV3 := Lib.hid HK3.out.1
              clear HK3
              obtain ⟨wo, hwo⟩ : ∃ wo, wr = wo := ⟨_, rfl⟩
              subst hwo
              obtain ⟨fa, hfa⟩ : ∃ f : Nat, from_ % 70 = (f : Int) := ⟨(from_ % 70).toNat, by omega⟩
              obtain ⟨fb, hfb⟩ : ∃ f : Nat, to_ % 70 = (f : Int) := ⟨(to_ % 70).toNat, by omega⟩
              have hfa70 : fa < 70 := by omega
              have hfb70 : fb < 70 := by omega
              have P1 : Hid (∀ W, Calls Try.prog 29 #[.int .i64 from_, .int .i64 70] W fun e w' => e = .returned (.int .i64 (fa : Int)) ∧ W = w') := fun W => by have := pick_any from_ 70 W (by decide) (by decide); rwa [hfa] at this
              have P2 : Hid (∀ W, Calls Try.prog 29 #[.int .i64 to_, .int .i64 70] W fun e w' => e = .returned (.int .i64 (fb : Int)) ∧ W = w') := fun W => by have := pick_any to_ 70 W (by decide) (by decide); rwa [hfb] at this
              clear hfa hfb
              go_wp2_with fail
              refine (P1.out _).mono ?_
              rintro e w' ⟨rfl, rfl⟩
              go_wp2_with fail
              refine (P2.out _).mono ?_
              rintro e w' ⟨rfl, rfl⟩
              obtain ⟨hok, As, cs, hhp, hcap, hokA, hrdS⟩ := HV3.out.1
              have hcS : wr.cell? ⟨ps, 0, none⟩ = some (.slice As es.length cs) := cell_of_one hhp
              have HT : Hid (SetIn (wr.alloc (.cells #[.slice As es.length cs] 24)) wr.heap.size es ∧ Held ps pa w (wr.alloc (.cells #[.slice As es.length cs] 24)) es bs) := by
                have hb := (Below.refl wr.heap.size wr).alloc (Nat.le_refl _) (.cells #[.slice As es.length cs] 24)
                exact ⟨SetVal.put ⟨hok, hcap, hokA, hrdS⟩, HV3.out.below hb⟩
              have hpt : Hid (pa < wr.heap.size) := HV3.out.2.1.lt
              clear hok hhp hcap hokA hrdS
              go_wp2_with fail
              obtain ⟨w3, hw3⟩ : ∃ w3, wr.alloc (.cells #[.slice As es.length cs] 24) = w3 := ⟨_, rfl⟩
              rw [hw3] at HT ⊢
              clear hw3 hcS HV3
              obtain ⟨pt, hptq⟩ : ∃ p, Hid (wr.heap.size = p) := ⟨_, rfl⟩
              rw [hptq.out] at HT hpt ⊢
              refine (gaps_any es ps fa fb w3 HT.out.2.1 (by have := HSm.out.len; omega)).mono ?_
              rintro e w4 ⟨v4, rfl, hown, hb⟩
              obtain ⟨Ag, cg, rfl, hcg, _, _, hrdG⟩ := own_form hown
              obtain ⟨gs, hgs⟩ : ∃ gs, gapsF es fa fb = gs := ⟨_, rfl⟩
              have HGs : Hid (Sm 70 gs ∧ ∀ n, mem gs n = (decide ((fa : Int) ≤ n ∧ n < (fb : Int)) && !mem es n)) := by
                rw [← hgs]
                refine ⟨HSm.out.gaps _ _ (by omega) (by omega), fun n => ?_⟩
                rw [mem_gaps HSm.out.1, clamp_small _ (by omega) (by omega), clamp_small _ (by omega) (by omega)]
              rw [hgs] at hrdG hcg hown ⊢
              obtain ⟨M, hM⟩ : ∃ M, Hid (gs.length / 2 = M) := ⟨_, rfl⟩
              have hg2 : Hid (gs.length = M * 2) := by have := HGs.out.1.1.2.1; have := hM.out; show _ = _; omega
              rw [hM.out] at hrdG hcg hown ⊢
              have HG : Hid (SetIn w4 pt es ∧ Held ps pa w w4 es bs ∧ Rd w4 w4.heap.size Ag (M * 2) (ints gs)) := ⟨HT.out.1.below hb, HT.out.2.below hb, by simpa using hrdG⟩
              have hMm : (M : Int) ≤ 71 := by have := HGs.out.1.len; have := hg2.out; omega
              clear hown hb hrdG HT hgs
              go_wp2_with fail
              go_loopw [112] (fun i wq => ∃ k : Nat, k ≤ M ∧ i = .int .i64 k ∧ Hid (GapI ps pa pt w wq es bs gs Ag M k)) (fun i _ => M - (intOf i).toNat)
              case atStart => exact ⟨0, Nat.zero_le _, rfl, es, HG.out.1, HSm.out, fun n => by simp, HG.out.2.1, HG.out.2.2⟩
              case round =>
                obtain ⟨k, hk, rfl, HK4⟩ := hrel
                clear HG
                by_cases hkM : k < M
                · have hkMI : (k : Int) < (M : Int) := by omega
                  have hkcg : (k : Int) < (cg : Int) := by omega
                  obtain ⟨et, ht, hst, hmt, hhd, hrd4⟩ := HK4.out
                  obtain ⟨b, off, hA, hbn, hcs⟩ := hrd4.2 (by omega)
                  subst hA
                  have hlp : (prs gs).length = M := by rw [prs_len gs HGs.out.1.1.2.1]; exact hM.out
                  obtain ⟨⟨x, y⟩, hr⟩ : ∃ r, (prs gs)[k]? = some r := ⟨_, List.getElem?_eq_getElem (by omega)⟩
                  have hxy := pl_get0 (prs gs) k (x, y) hr
                  rw [pl_prs gs HGs.out.1.1.2.1] at hxy
                  have hrm : (x, y) ∈ prs gs := List.mem_of_getElem? hr
                  obtain ⟨hx0, hxlt, hyT⟩ := prs_ok HGs.out.1.1 _ hrm
                  have hin : ∀ n, x ≤ n → n < y → (fa : Int) ≤ n ∧ n < (fb : Int) := fun n h1 h2 => by
                    have h3 : mem gs n = true := by
                      rw [mem_prs gs HGs.out.1.1.1 HGs.out.1.1.2.1, List.any_eq_true]
                      exact ⟨_, hrm, by simp [inRun, h1, h2]⟩
                    rw [HGs.out.2 n] at h3
                    simp only [Bool.and_eq_true, decide_eq_true_eq] at h3
                    exact h3.1
                  simp only at hx0 hxlt hyT
                  have hxa : (fa : Int) ≤ x := (hin x (by omega) (by omega)).1
                  have hyb : y ≤ (fb : Int) := by have := (hin (y - 1) (by omega) (by omega)).2; omega
                  have cx : wr.cell? ⟨b, off + k * 2, none⟩ = some (.int .i64 x) := by
                    rw [hcs (k * 2) _ (ints_get gs (k * 2) (by have := hg2.out; omega)), show k * 2 = 2 * k by omega, hxy.1]
                  have cy : wr.cell? ⟨b, off + k * 2 + 1, none⟩ = some (.int .i64 y) := by
                    rw [Nat.add_assoc, hcs (k * 2 + 1) _ (ints_get gs (k * 2 + 1) (by have := hg2.out; omega)), show k * 2 + 1 = 2 * k + 1 by omega, hxy.2]
                  have nb := World.new_ne wr _ cx
                  have hbw : b < wr.heap.size := World.block_lt_of_cell? wr _ cx
                  have HN : Hid (SetIn (wr.alloc (.cells #[.int .i64 x, .int .i64 y] 32)) pt et ∧ Held ps pa w (wr.alloc (.cells #[.int .i64 x, .int .i64 y] 32)) es bs ∧ Rd (wr.alloc (.cells #[.int .i64 x, .int .i64 y] 32)) (wr.alloc (.cells #[.int .i64 x, .int .i64 y] 32)).heap.size (some ⟨b, off, none⟩) (M * 2) (ints gs)) := by
                    have hb := (Below.refl wr.heap.size wr).alloc (Nat.le_refl _) (.cells #[.int .i64 x, .int .i64 y] 32)
                    exact ⟨ht.below hb, hhd.below hb, (hrd4.below hb (Nat.le_refl _)).more (by simp)⟩
                  have HMt := Lib.hid (And.intro hst hmt)
                  have HRk := Lib.hid (And.intro hr hlp)
                  clear ht hst hmt hhd hrd4 hcs hxy hrm hin hr hlp HK4
                  obtain ⟨wo, hwo⟩ : ∃ wo, wr = wo := ⟨_, rfl⟩
                  subst hwo
                  go_wp2_with fail
                  obtain ⟨w5, hw5⟩ : ∃ w5, wr.alloc (.cells #[.int .i64 x, .int .i64 y] 32) = w5 := ⟨_, rfl⟩
                  rw [hw5] at HN ⊢
                  clear hw5 cx cy nb hbw
                  refine (add_any et pt x y w5 HN.out.1 (by have := HMt.out.1.len; omega)).mono ?_
                  rintro e w6 ⟨rfl, h1, h2⟩
                  have HN2 : Hid (GapI ps pa pt w w6 es bs gs (some ⟨b, off, none⟩) M (k + 1)) := by
                    obtain ⟨_, Aq, cq, hhq, _⟩ := HN.out.1
                    have hlt := HN.out.1.lt
                    refine ⟨_, h1, HMt.out.1.turn _ _ _ (by omega) (by omega), fun n => ?_, ⟨HN.out.2.1.1.but h2 HN.out.1 (by have := hpp.out; have := hpt.out; omega), HN.out.2.1.2.1.but h2 (by have := hpt.out; omega), HN.out.2.1.2.2.trans (grown_below h2 (by have := hpp.out; have := hpt.out; omega) (by have := hpp.out; have := hpt.out; omega))⟩, (HN.out.2.2.but (Nat.le_refl _) h2 hhq).more h2.size⟩
                    rw [mem_add HMt.out.1.1 _ _ ⟨by omega, by omega⟩ ⟨by omega, by omega⟩, HMt.out.2 n, List.take_succ_eq_append_getElem (by rw [HRk.out.2]; exact hkM), List.any_append]
                    have e1 : (prs gs)[k]'(by rw [HRk.out.2]; exact hkM) = (x, y) := by
                      have := HRk.out.1
                      rw [List.getElem?_eq_getElem (by rw [HRk.out.2]; exact hkM)] at this
                      simpa using this
                    rw [e1]
                    simp [Bool.or_assoc]
                  clear h1 h2 HN HMt HRk
                  obtain ⟨wo, hwo⟩ : ∃ wo, w6 = wo := ⟨_, rfl⟩
                  subst hwo
                  go_wp2_with fail
                  go_roundw
                  case rel => exact ⟨k + 1, by omega, by go_num, HN2⟩
                  case measure => simp [intOf]; omega
                · have hkMI : ¬ (k : Int) < (M : Int) := by omega
                  obtain rfl : k = M := by omega
                  have HE : Hid (∃ et, SetIn wr pt et ∧ Sm 70 et ∧ (∀ n, mem et n = (mem es n || decide ((fa : Int) ≤ n ∧ n < (fb : Int)))) ∧ Held ps pa w wr es bs) := by
                    obtain ⟨et, ht, hst, hmt, hhd, _⟩ := HK4.out
                    refine ⟨et, ht, hst, fun n => ?_, hhd⟩
                    rw [hmt n, List.take_of_length_le (by rw [prs_len gs HGs.out.1.1.2.1, hM.out]; exact Nat.le_refl _), ← mem_prs gs HGs.out.1.1.1 HGs.out.1.1.2.1, HGs.out.2 n]
                    cases mem es n <;> simp
                  clear HK4
                  obtain ⟨wo, hwo⟩ : ∃ wo, wr = wo := ⟨_, rfl⟩
                  subst hwo
                  go_wp2_with fail
                  obtain ⟨et, het, hst, hmt, hhd⟩ := HE.out
                  have HET := Lib.hid (And.intro hst hmt)
                  obtain ⟨cs, hcs⟩ : ∃ cs, Hid (bs.map Value.bool = cs) := ⟨_, rfl⟩
                  have hcl70 : cs.length = 70 := by rw [← hcs.out, List.length_map]; exact hhd.2.1.1
                  have hrg : ∀ wx, ArrB wx pa bs → wx.rangeAt pa 0 cs := fun wx h q v hq => by
                    rw [Nat.zero_add, Am.cell_of wx pa q _ _ (0, 0) h.2, hcs.out]; simpa using hq
                  have HRg := Lib.hid hrg
                  have C1 : Hid (∀ wx, (SetIn wx pt et ∧ Held ps pa w wx es bs ∧ wx.rangeAt pa 0 cs) → Calls Try.prog 19 #[] wx fun e w' => e = .returned (.bool true) ∧ SetIn w' pt et ∧ Held ps pa w w' es bs ∧ w'.rangeAt pa 0 cs) := fun wx h => by
                    refine (Known.known_any wx).mono ?_
                    rintro e w' ⟨rfl, hb⟩
                    exact ⟨rfl, h.1.below hb, h.2.1.below hb, HRg.out _ (h.2.1.below hb).2.1⟩
                  have C2 : Hid (∀ wx, (SetIn wx pt et ∧ Held ps pa w wx es bs ∧ wx.rangeAt pa 0 cs) → Calls Try.prog 22 #[.pointer (some ⟨ps, 0, none⟩)] wx fun e w' => e = .returned (.int .i64 (cc : Int)) ∧ SetIn w' pt et ∧ Held ps pa w w' es bs ∧ w'.rangeAt pa 0 cs) := fun wx h => by
                    refine (count_any es ps wx h.2.1.1 (by have := HSm.out.len; omega)).mono ?_
                    rintro e w' ⟨rfl, hb⟩
                    exact ⟨by rw [HCnt.out], h.1.below hb, h.2.1.below hb, HRg.out _ (h.2.1.below hb).2.1⟩
                  obtain ⟨ct, hct⟩ : ∃ c, Hid (cnt et = c) := ⟨_, rfl⟩
                  have C3 : Hid (∀ wx, (SetIn wx pt et ∧ Held ps pa w wx es bs ∧ wx.rangeAt pa 0 cs) → Calls Try.prog 22 #[.pointer (some ⟨pt, 0, none⟩)] wx fun e w' => e = .returned (.int .i64 ct) ∧ SetIn w' pt et ∧ Held ps pa w w' es bs ∧ w'.rangeAt pa 0 cs) := fun wx h => by
                    refine (count_any et pt wx h.1 (by have := HET.out.1.len; omega)).mono ?_
                    rintro e w' ⟨rfl, hb⟩
                    exact ⟨by rw [hct.out], h.1.below hb, h.2.1.below hb, HRg.out _ (h.2.1.below hb).2.1⟩
                  have C4 : Hid (∀ wx, (SetIn wx pt et ∧ Held ps pa w wx es bs ∧ wx.rangeAt pa 0 cs) → Calls Try.prog 24 #[.pointer (some ⟨pt, 0, none⟩), .int .i64 (fa : Int), .int .i64 (fb : Int)] wx fun e w' => e = .returned (.bool true) ∧ SetIn w' pt et ∧ Held ps pa w w' es bs ∧ w'.rangeAt pa 0 cs) := fun wx h => by
                    refine (all_in et pt fa fb wx h.1 (by have := HET.out.1.len; omega)).mono ?_
                    rintro e w' ⟨rfl, hb⟩
                    refine ⟨ret_bool ?_, h.1.below hb, h.2.1.below hb, HRg.out _ (h.2.1.below hb).2.1⟩
                    rw [all_iff HET.out.1.1]
                    intro m h1 h2
                    rw [clamp_small _ (by omega) (by omega)] at h1 h2
                    rw [HET.out.2 m]
                    simp [h1, h2]
                  have HS0 : Hid (SetIn wr pt et ∧ Held ps pa w wr es bs ∧ wr.rangeAt pa 0 cs) := ⟨het, hhd, hrg _ hhd.2.1⟩
                  clear het hst hmt hhd hrg HE
                  by_cases hab : fa < fb
                  · obtain ⟨cI, hcI⟩ : ∃ c : Nat, Hid (cntB bs fa (fb - fa) = c) := ⟨_, rfl⟩
                    have C5 : Hid (∀ wx, (SetIn wx pt et ∧ Held ps pa w wx es bs ∧ wx.rangeAt pa 0 cs) → Calls Try.prog 36 #[.agg cs.toArray, .int .i64 (fa : Int), .int .i64 (fb : Int)] wx fun e w' => e = .returned (.int .i64 (cI : Int)) ∧ SetIn w' pt et ∧ Held ps pa w w' es bs ∧ w'.rangeAt pa 0 cs) := fun wx h => by
                      rw [← hcs.out]
                      refine (inside_any bs h.2.1.2.1.1 fa fb (by omega) (by omega) wx).mono ?_
                      rintro e w' ⟨rfl, hb⟩
                      exact ⟨by rw [hcI.out], h.1.below hb, h.2.1.below hb, by rw [hcs.out]; exact HRg.out _ (h.2.1.below hb).2.1⟩
                    have hsum : ct - (cc : Int) + (cI : Int) = (fb : Int) - (fa : Int) := by
                      have := last_sum (es := es) (et := et) (bs := bs) HSays.out.1 HSm.out HET.out.1 fa fb (by omega) (by omega) HET.out.2
                      rw [hct.out, ← HCnt.out, hcI.out] at this
                      exact this
                    have hsumd : decide (ct - (cc : Int) + (cI : Int) = (fb : Int) - (fa : Int)) = true := decide_eq_true hsum
                    have habd : decide ((fb : Int) ≤ (fa : Int)) = false := decide_eq_false (by omega)
                    have hctb : 0 ≤ ct ∧ ct ≤ 300 := by
                      have h0 := cnt_bound HET.out.1.1
                      rw [hct.out] at h0
                      refine ⟨h0.1, ?_⟩
                      have := cntB_le bs fa (fb - fa)
                      rw [hcI.out] at this
                      omega
                    obtain ⟨hct0, hct1⟩ := hctb
                    have hcI70 : cI ≤ 70 := by have := cntB_le bs fa (fb - fa); rw [hcI.out] at this; omega
                    have hu48 := Try.underlying48
                    have hi48 : (Try.prog.info? 48).map (·.size) = some cs.length := by rw [hcl70]; kernel_rfl
                    have habn : decide (fb ≤ fa) = false := decide_eq_false (by omega)
                    have habm : ¬ fb ≤ fa := by omega
                    go_region_held3 (fun wx => SetIn wx pt et ∧ Held ps pa w wx es bs ∧ wx.rangeAt pa 0 cs) (first | exact ⟨HS0.out.1.drewN 1, HS0.out.2.1.drew, HS0.out.2.2⟩ | assumption) (first | (go_at_call 19; refine (C1.out _ (by assumption)).mono ?_; rintro e w' ⟨rfl, hS⟩) | (go_at_call 22; (with_reducible first | refine (C2.out _ (by assumption)).mono ?_ | refine (C3.out _ (by assumption)).mono ?_); rintro e w' ⟨rfl, hS⟩) | (go_at_call 24; refine (C4.out _ (by assumption)).mono ?_; rintro e w' ⟨rfl, hS⟩) | (go_at_call 36; refine (C5.out _ (by assumption)).mono ?_; rintro e w' ⟨rfl, hS⟩))
                    rename_i hS
                    go_wp2_with fail
                    go_ret
                    have hB := hS.2.1.2.2
                    rw [← hps.out] at hB
                    exact ⟨(by first | rfl | exact ret_bool hsumd | (simp; rw [IntWalk.i64_in (ct - (cc : Int)) (by omega), IntWalk.i64_in (ct - (cc : Int) + (cI : Int)) (by omega), IntWalk.i64_in ((fb : Int) - (fa : Int)) (by omega)]; exact hsum)), hB⟩
                  · have habd : decide ((fb : Int) ≤ (fa : Int)) = true := decide_eq_true (by omega)
                    have habn : decide (fb ≤ fa) = true := decide_eq_true (by omega)
                    refine wp_region_held_drew (S := fun wx => SetIn wx pt et ∧ Held ps pa w wx es bs ∧ wx.rangeAt pa 0 cs) (by kernel_rfl) ?_ (fun hHeld => ?_)
                    · exact ⟨HS0.out.1.drewN 1, HS0.out.2.1.drew, HS0.out.2.2⟩
                    refine wpAnyH_ready (rs := [0]) (by kernel_rfl) (by simp) ?_
                    refine AllReadyH.cons rfl (fun K hK => ?_) AllReadyH.nil
                    go_simp
                    refine (C1.out _ (by assumption)).mono ?_
                    rintro e w' ⟨rfl, hS0⟩
                    refine hK.out _ _ ?_ (fun hHeld => ?_)
                    · exact hS0
                    clear hK K
                    go_simp
                    refine wpAnyH_take (i := 1) (v := ?_) rfl (by kernel_rfl) (by kernel_rfl) (by kernel_rfl) (fun _ _ _ h => h) (Or.inl ⟨by rfl, ?_⟩) (by assumption) ?_
                    rotate_left
                    · intro w hSw; (try dsimp only at hSw); go_simp; try with_reducible rfl
                    go_simp
                    refine wpAnyH_take (i := 3) (v := ?_) rfl (by kernel_rfl) (by kernel_rfl) (by kernel_rfl) (fun _ _ _ h => h) (Or.inl ⟨by rfl, ?_⟩) (by assumption) ?_
                    rotate_left
                    · intro w hSw; (try dsimp only at hSw); go_simp; try with_reducible rfl
                    go_simp
                    refine wpAnyH_ready (rs := [2]) (by kernel_rfl) (by simp) ?_
                    refine AllReadyH.cons rfl (fun K hK => ?_) AllReadyH.nil
                    go_simp
                    refine (C2.out _ (by assumption)).mono ?_
                    rintro e w' ⟨rfl, hS1⟩
                    refine hK.out _ _ ?_ (fun hHeld => ?_)
                    · exact hS1
                    clear hK K
                    go_simp
                    refine wpAnyH_take (i := 4) (v := ?_) rfl (by kernel_rfl) (by kernel_rfl) (by kernel_rfl) (fun _ _ _ h => h) (Or.inl ⟨by rfl, ?_⟩) (by assumption) ?_
                    rotate_left
                    · intro w hSw; (try dsimp only at hSw); go_simp; try with_reducible rfl
                    go_simp
                    refine wpAnyH_take (i := 5) (v := ?_) rfl (by kernel_rfl) (by kernel_rfl) (by kernel_rfl) (fun _ _ _ h => h) (Or.inl ⟨by rfl, ?_⟩) (by assumption) ?_
                    rotate_left
                    · intro w hSw; (try dsimp only at hSw); go_simp; try with_reducible rfl
                    go_simp
                    refine wpAnyH_take (i := 6) (v := ?_) rfl (by kernel_rfl) (by kernel_rfl) (by kernel_rfl) (fun _ _ _ h => h) (Or.inl ⟨by rfl, ?_⟩) (by assumption) ?_
                    rotate_left
                    · intro w hSw; (try dsimp only at hSw); go_simp; try with_reducible rfl
                    go_simp
                    refine wpAnyH_take (i := 7) (v := ?_) rfl (by kernel_rfl) (by kernel_rfl) (by kernel_rfl) (fun _ _ _ h => h) (Or.inl ⟨by rfl, ?_⟩) (by assumption) ?_
                    rotate_left
                    · intro w hSw; (try dsimp only at hSw); go_simp; try with_reducible rfl
                    go_simp
                    refine wpAnyH_take (i := 8) (v := ?_) rfl (by kernel_rfl) (by kernel_rfl) (by kernel_rfl) (fun _ _ _ h => h) (Or.inl ⟨by rfl, ?_⟩) (by assumption) ?_
                    rotate_left
                    · intro w hSw; (try dsimp only at hSw); go_simp; try with_reducible rfl
                    go_simp
                    refine wpAnyH_ready (rs := [9]) (by kernel_rfl) (by simp) ?_
                    refine AllReadyH.cons rfl (fun K hK => ?_) AllReadyH.nil
                    go_simp
                    refine (C4.out _ (by assumption)).mono ?_
                    rintro e w' ⟨rfl, hS2⟩
                    refine hK.out _ _ ?_ (fun hHeld => ?_)
                    · exact hS2
                    clear hK K
                    go_simp
                    refine wpAnyH_take (i := 10) (v := ?_) rfl (by kernel_rfl) (by kernel_rfl) (by kernel_rfl) (fun _ _ _ h => h) (Or.inl ⟨by rfl, ?_⟩) (by assumption) ?_
                    rotate_left
                    · intro w hSw; (try dsimp only at hSw); go_simp; try with_reducible rfl
                    go_simp
                    refine wpAnyH_take (i := 11) (v := ?_) rfl (by kernel_rfl) (by kernel_rfl) (by kernel_rfl) (fun _ _ _ h => h) (Or.inl ⟨by rfl, ?_⟩) (by assumption) ?_
                    rotate_left
                    · intro w hSw; (try dsimp only at hSw); go_simp; try with_reducible rfl
                    go_simp
                    refine wpAnyH_take (i := 12) (v := ?_) rfl (by kernel_rfl) (by kernel_rfl) (by kernel_rfl) (fun _ _ _ h => h) (Or.inl ⟨by rfl, ?_⟩) (by assumption) ?_
                    rotate_left
                    · intro w hSw; (try dsimp only at hSw); go_simp; try with_reducible rfl
                    go_simp
                    refine wpAnyH_take (i := 13) (v := ?_) rfl (by kernel_rfl) (by kernel_rfl) (by kernel_rfl) (fun _ _ _ h => h) (Or.inl ⟨by rfl, ?_⟩) (by assumption) ?_
                    rotate_left
                    · intro w hSw; (try dsimp only at hSw); go_simp; try with_reducible rfl
                    go_simp
                    refine wpAnyH_take (i := 14) (v := ?_) rfl (by kernel_rfl) (by kernel_rfl) (by kernel_rfl) (fun _ _ _ h => h) (Or.inl ⟨by rfl, ?_⟩) (by assumption) ?_
                    rotate_left
                    · intro w hSw; (try dsimp only at hSw); go_simp; try with_reducible rfl
                    go_simp
                    refine wpAnyH_take (i := 15) (v := ?_) rfl (by kernel_rfl) (by kernel_rfl) (by kernel_rfl) (fun _ _ _ h => h) (Or.inl ⟨by rfl, ?_⟩) (by assumption) ?_
                    rotate_left
                    · intro w hSw; (try dsimp only at hSw); go_simp; try with_reducible rfl
                    go_simp
                    refine wpAnyH_take (i := 16) (v := undef) rfl (by kernel_rfl) (by kernel_rfl) (by kernel_rfl) (fun _ _ _ h => h) (Or.inr ⟨by rfl, rfl⟩) (by assumption) ?_
                    go_simp
                    refine wpAnyH_take (i := 17) (v := undef) rfl (by kernel_rfl) (by kernel_rfl) (by kernel_rfl) (fun _ _ _ h => h) (Or.inr ⟨by rfl, rfl⟩) (by assumption) ?_
                    go_simp
                    refine wpAnyH_take (i := 18) (v := undef) rfl (by kernel_rfl) (by kernel_rfl) (by kernel_rfl) (fun _ _ _ h => h) (Or.inr ⟨by rfl, rfl⟩) (by assumption) ?_
                    go_simp
                    refine wpAnyH_take (i := 19) (v := undef) rfl (by kernel_rfl) (by kernel_rfl) (by kernel_rfl) (fun _ _ _ h => h) (Or.inr ⟨by rfl, rfl⟩) (by assumption) ?_
                    go_simp
                    refine wpAnyH_take (i := 20) (v := undef) rfl (by kernel_rfl) (by kernel_rfl) (by kernel_rfl) (fun _ _ _ h => h) (Or.inr ⟨by rfl, rfl⟩) (by assumption) ?_
                    go_simp
                    refine wpAnyH_take (i := 21) (v := undef) rfl (by kernel_rfl) (by kernel_rfl) (by kernel_rfl) (fun _ _ _ h => h) (Or.inr ⟨by rfl, rfl⟩) (by assumption) ?_
                    go_simp
                    refine wpAnyH_take (i := 22) (v := undef) rfl (by kernel_rfl) (by kernel_rfl) (by kernel_rfl) (fun _ _ _ h => h) (Or.inr ⟨by rfl, rfl⟩) (by assumption) ?_
                    go_simp
                    refine wpAnyH_take (i := 23) (v := undef) rfl (by kernel_rfl) (by kernel_rfl) (by kernel_rfl) (fun _ _ _ h => h) (Or.inr ⟨by rfl, rfl⟩) (by assumption) ?_
                    go_simp
                    refine wpAnyH_take (i := 24) (v := undef) rfl (by kernel_rfl) (by kernel_rfl) (by kernel_rfl) (fun _ _ _ h => h) (Or.inr ⟨by rfl, rfl⟩) (by assumption) ?_
                    go_simp
                    refine wpAnyH_take (i := 25) (v := undef) rfl (by kernel_rfl) (by kernel_rfl) (by kernel_rfl) (fun _ _ _ h => h) (Or.inr ⟨by rfl, rfl⟩) (by assumption) ?_
                    go_simp
                    refine wpAnyH_take (i := 26) (v := undef) rfl (by kernel_rfl) (by kernel_rfl) (by kernel_rfl) (fun _ _ _ h => h) (Or.inr ⟨by rfl, rfl⟩) (by assumption) ?_
                    go_simp
                    refine wpAnyH_take (i := 27) (v := undef) rfl (by kernel_rfl) (by kernel_rfl) (by kernel_rfl) (fun _ _ _ h => h) (Or.inr ⟨by rfl, rfl⟩) (by assumption) ?_
                    go_simp
                    refine wpAnyH_take (i := 28) (v := ?_) rfl (by kernel_rfl) (by kernel_rfl) (by kernel_rfl) (fun _ _ _ h => h) (Or.inl ⟨by rfl, ?_⟩) (by assumption) ?_
                    rotate_left
                    · intro w hSw; (try dsimp only at hSw); go_simp; try with_reducible rfl
                    go_simp
                    refine wpAnyH_take (i := 29) (v := ?_) rfl (by kernel_rfl) (by kernel_rfl) (by kernel_rfl) (fun _ _ _ h => h) (Or.inl ⟨by rfl, ?_⟩) (by assumption) ?_
                    rotate_left
                    · intro w hSw; (try dsimp only at hSw); go_simp; try with_reducible rfl
                    go_simp
                    refine wpAnyH_take (i := 30) (v := ?_) rfl (by kernel_rfl) (by kernel_rfl) (by kernel_rfl) (fun _ _ _ h => h) (Or.inl ⟨by rfl, ?_⟩) (by assumption) ?_
                    rotate_left
                    · intro w hSw; (try dsimp only at hSw); go_simp; try with_reducible rfl
                    go_simp
                    refine wpAnyH_done (by kernel_rfl) ?_ _
                    go_wp2_with fail
                    go_ret
                    have hB := hS2.2.1.2.2
                    rw [← hps.out] at hB
                    exact ⟨(by first | rfl | simp), hB⟩
end Go.Proofs.Ytegfaecbealnhab.IsSet
