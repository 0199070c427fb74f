/- QueueOrder: the walk. Conditions: the arguments are opened. -/
import Derived.Test.YtlaopkkfgkcejaaJQp
set_option linter.unusedSimpArgs false
set_option linter.unusedVariables false

namespace Go.Proofs.Ytlaopkkfgkcejaa.Qu
open Go Go.RowKit Go.Proofs.Ytlaopkkfgkcejaa

set_option maxRecDepth 100000 in
set_option maxHeartbeats 80000000 in
theorem order_walk (A0 : Option Addr) (c0 : Nat) (ps : List (List Nat)) (A1 : Option Addr) (c1 : Nat) (l1 : List Int) (a2 : Int) (w : World) (hd : IsParts w A0 c0 ps) (hi : IsInts w A1 c1 l1) :
    Calls Try.prog 5 #[.slice A0 ps.length c0, .slice A1 l1.length c1, .int .i64 a2] w fun e w' => e = .returned (.bool true) ∧ Below w.heap.size w w' := by
  have HPA := Lib.hid hd.parts
  have HL1 := Lib.hid hi.rd
  have hN0c := hd.cap
  have hN0r := hd.reach
  have hMc := hi.cap
  have hMr := hi.reach
  obtain ⟨N0, hN0⟩ : ∃ n, ps.length = n := ⟨_, rfl⟩
  obtain ⟨M, hM⟩ : ∃ n, l1.length = n := ⟨_, rfl⟩
  rw [hN0] at hN0c hN0r ⊢
  rw [hM] at hMc hMr HL1 ⊢
  have HN0 := Lib.hid hN0
  have HM := Lib.hid hM
  have hN0I : (N0 : Int) ≤ 140737488351232 := by omega
  have hMI : (M : Int) ≤ 140737488351232 := by omega
  obtain ⟨i0, hii, hz0, hz1, hz2⟩ := info_parts infoIt
  have HI := Lib.hid (And.intro hii (And.intro hz0 (And.intro hz1 hz2)))
  obtain ⟨i1, hii, hz0, hz1, hz2⟩ := info_parts infoU8
  have HJ := Lib.hid (And.intro hii (And.intro hz0 (And.intro hz1 hz2)))
  obtain ⟨p, hp⟩ : ∃ p, w.heap.size = p := ⟨_, rfl⟩
  obtain ⟨w1, hw1⟩ : ∃ x, w.alloc (.cells zeroQ 27) = x := ⟨_, rfl⟩
  have HQ0 : Hid (LQ w w1 p (p + 1) []) := by rw [← hp, ← hw1]; exact new_lq (Below.refl w.heap.size w)
  have hz1' : w1.heap.size = p + 1 := by rw [← hw1, ← hp]; simp
  clear hd hi hii hz0 hz1 hz2 hN0 hM
  go_enter Try.func5, Try.ntmps5
  go_upto_block 0 with (refine wpList_queue_new 26 7 rfl rfl rfl rfl rfl rfl rfl rfl rfl (fun _ _ => rfl) (fun _ _ => rfl) ?_)
  go_cut [8, 9] (fun v8 v9 wx => ∃ N : Nat, N ≤ 32 ∧ Hid (∃ qs, OrdI w1 wx (p + 1) v8 N ps qs))
  case first =>
    go_wp2_with fail
    go_loopw [8, 9] (fun v i wr => ∃ k : Nat, k ≤ 32 ∧ k ≤ N0 ∧ i = .int .i64 (k : Int) ∧ Hid (∃ qs, OrdI w1 wr (p + 1) v k ps qs)) (fun _ i _ => 32 - (intOf i).toNat)
    case atStart => exact ⟨0, by omega, by omega, rfl, [], RowQ.nil _ _, rfl, (fun _ h => by cases h), (fun _ h => by cases h), by first | exact Below.refl _ _ | (rw [hw1]; exact Below.refl _ _)⟩
    case round =>
      obtain ⟨k, hk32, hkN, rfl, HK⟩ := hrel
      have hkI : (k : Int) ≤ 32 := by omega
      have hk0I : (0 : Int) ≤ (k : Int) := by omega
      by_cases hkk : k < N0 ∧ k < 32
      · obtain ⟨qs, ho⟩ := HK.out
        obtain ⟨A9, c9, e9, hkc9, _, _, _⟩ := own_form ho.row.2.1
        subst e9
        obtain ⟨hk1, hk2⟩ := hkk
        have hk1I : (k : Int) < (N0 : Int) := by omega
        have hk2I : (k : Int) < 32 := by omega
        obtain ⟨vs, hrd, hvs⟩ := HPA.out
        obtain ⟨vk, hvk, Ak, ck, ev, hrk, hkc, hkr, hklt⟩ := hvs k (by have := HN0.out; omega)
        subst ev
        obtain ⟨bs, hbs⟩ : ∃ l, ps.getD k [] = l := ⟨_, rfl⟩
        rw [hbs] at hvk hrk hkc hkr hklt
        have hbw : Below w.heap.size w wr := HQ0.out.bel.trans (ho.bel.mono (by omega))
        obtain ⟨bA, oA, eA, hbA, hcA⟩ := hrd.2 (by have := HN0.out; omega)
        subst eA
        have z0 : wr.cell? ⟨bA, oA + k, none⟩ = some (.slice Ak bs.length ck) := (hbw.cell (p := ⟨bA, oA + k, none⟩) hbA).trans (hcA k _ hvk)
        have HFEW := Lib.hid (few_any bs wr.heap.size Ak ck 30 wr ((hrk.below hbw (Nat.le_refl _)).more hbw.size) (Nat.le_refl _) hkc hkr)
        have hu8 : IntKind.u8.wrap (k : Int) = (k : Int) := by
          have : IntKind.u8.wrap (k : Int) = (k : Int) % 256 := by simp [IntKind.wrap, IntKind.signed, IntKind.bits]
          omega
        obtain ⟨tk, htk⟩ : ∃ l, bs.take 30 = l := ⟨_, rfl⟩
        obtain ⟨n3, hn3⟩ : ∃ n, tk.length = n := ⟨_, rfl⟩
        have hn30 : n3 ≤ 30 := by rw [← hn3, ← htk, List.length_take]; omega
        rw [htk, hn3] at HFEW
        have HTK : Hid (∀ x ∈ tk ++ [k], x < 256) := fun x hx => by
          rw [List.mem_append] at hx
          rcases hx with hx | hx
          · rw [← htk] at hx; exact hklt x (List.mem_of_mem_take hx)
          · have : x = k := by simpa using hx
            omega
        have HPS : Hid (putsD ps (k + 1) = putsD ps k ++ [((k : Int), tk ++ [k])]) := by show _ = _; rw [puts_succ, hbs, htk]
        have HO := Lib.hid ho
        have HN3 := Lib.hid hn3
        have hsz : w1.heap.size ≤ wr.heap.size := ho.bel.size
        clear hrd hvs hvk hrk hkc hkr hklt hbw hcA hbs htk hn3 ho HK
        go_wp2_with fail
        go_at_call 17
        refine HFEW.out.mono ?_
        rintro e w3 ⟨v3, rfl, ho3, hb3⟩
        obtain ⟨A3, c3, e3, hc3, _⟩ := own_form ho3
        subst e3
        obtain ⟨s, hs⟩ : ∃ s, w3.heap.size = s := ⟨_, rfl⟩
        have HO3 : Hid ((w3.alloc (.cells #[.int .u8 (k : Int)] 5)).ownsRow wr.heap.size 5 1 (.slice A3 n3 c3) n3 (bv tk)) := ho3.alloc _
        have hd1 : Hid (Rd (w3.alloc (.cells #[.int .u8 (k : Int)] 5)) (s + 1) (some ⟨s, 0, none⟩) (1 * 1) [.int .u8 (k : Int)]) := by rw [← hs]; exact rd_new _ _ _ _ _ _ _ rfl (by omega) rfl rfl
        have hd2 : Hid (ones [Value.int .u8 (k : Int)]) := fun u hu => by simp at hu; subst hu; rfl
        have HB3 : Hid (Below wr.heap.size wr (w3.alloc (.cells #[.int .u8 (k : Int)] 5))) := hb3.alloc hb3.size _
        clear ho3 hb3
        go_wp2_with (at_builtin; refine wpList_app _ rfl (.tmp 43) (.tmp 46) 22 rfl wr.heap.size 5 i1 (.int .u8 0) 1 1 Try.underlying22 HJ.out.1 HJ.out.2.1 HJ.out.2.2.1 HJ.out.2.2.2 rfl (by decide) (.slice A3 n3 c3) n3 (bv tk) rfl HO3.out (s + 1) (some ⟨s, 0, none⟩) 1 1 [.int .u8 (k : Int)] rfl hd1.out hd2.out (by unfold maxLen; omega) (by omega) HB3.out.size ?_)
        intro v4 w4 hown4 hg4
        have hb4 : Below wr.heap.size wr w4 := HB3.out.grown hg4 HB3.out.size (fun g hg => (HO3.out.lt g hg).1)
        rw [show bv tk ++ [Value.int .u8 (k : Int)] = bv (tk ++ [k]) by rw [bv_app]; rfl] at hown4
        obtain ⟨A4, c4, e4, hc4, _⟩ := own_form hown4
        subst e4
        have hfz4 : FzA w4 (p + 1) A4 := by
          obtain ⟨b, o, cur, h1, h2, h3⟩ := FzA.own hown4 (by omega)
          exact ⟨b, o, cur, h1, by omega, h3⟩
        have hit4 : ItB w4 (p + 1) ⟨(k : Int), A4, n3 + 1, c4, tk ++ [k]⟩ := itb_own (own_base hown4 (show p + 1 ≤ wr.heap.size by omega)) HTK.out hc4 _
        obtain ⟨s4, hs4⟩ : ∃ s, w4.heap.size = s := ⟨_, rfl⟩
        have hba : Below w4.heap.size w4 (w4.alloc (.cells #[.int .i64 (k : Int), .slice A4 (n3 + 1) c4] 24)) := (Below.refl _ _).alloc (Nat.le_refl _) _
        have HITA := Lib.hid (hit4.below hba)
        have HFZA := Lib.hid (hfz4.below hba)
        have HBA : Hid (Below wr.heap.size wr (w4.alloc (.cells #[.int .i64 (k : Int), .slice A4 (n3 + 1) c4] 24))) := hb4.trans (hba.mono hb4.size)
        have HRA := Lib.hid (HO.out.row.below HBA.out)
        have hd3 : Hid (Rd (w4.alloc (.cells #[.int .i64 (k : Int), .slice A4 (n3 + 1) c4] 24)) (s4 + 1) (some ⟨s4, 0, none⟩) (1 * 2) (itC ⟨(k : Int), A4, n3 + 1, c4, tk ++ [k]⟩)) := by rw [← hs4]; exact rd_new _ _ _ _ _ _ _ rfl (by omega) rfl rfl
        have hd5 : Hid (ones (itC ⟨(k : Int), A4, n3 + 1, c4, tk ++ [k]⟩)) := fun u hu => by simp [itC] at hu; rcases hu with rfl | rfl <;> rfl
        have hd6 : Hid (p + 1 ≤ (w4.alloc (.cells #[.int .i64 (k : Int), .slice A4 (n3 + 1) c4] 24)).heap.size) := by have := HBA.out.size; show _ ≤ _; omega
        clear hown4 hg4 hb4 hfz4 hit4 hba
        go_wp2_with (at_builtin; refine wpList_app _ rfl (.tmp 37) (.tmp 49) 29 rfl (p + 1) 24 i0 (.agg #[.int .i64 0, .slice none 0 0]) 2 32 Try.underlying29 HI.out.1 HI.out.2.1 HI.out.2.2.1 HI.out.2.2.2 rfl (by decide) (.slice A9 k c9) k (its qs) rfl HRA.out.2.1 (s4 + 1) (some ⟨s4, 0, none⟩) 1 1 (itC ⟨(k : Int), A4, n3 + 1, c4, tk ++ [k]⟩) rfl hd3.out hd5.out (by unfold maxLen; omega) (by omega) hd6.out ?_)
        intro v5 w5 hown5 hg5
        have HT5 : Hid (∃ qs, OrdI w1 w5 (p + 1) v5 (k + 1) ps qs) := by
          have hmem : ∀ x, x ∈ qs ++ [(⟨(k : Int), A4, n3 + 1, c4, tk ++ [k]⟩ : It)] → x ∈ qs ∨ x = ⟨(k : Int), A4, n3 + 1, c4, tk ++ [k]⟩ := fun x hx => by simpa using hx
          have hB : Below w1.heap.size w1 (w4.alloc (.cells #[.int .i64 (k : Int), .slice A4 (n3 + 1) c4] 24)) := HO.out.bel.trans (HBA.out.mono hsz)
          refine ⟨qs ++ [⟨(k : Int), A4, n3 + 1, c4, tk ++ [k]⟩], HRA.out.push HITA.out hown5 hg5, by rw [List.map_append, HO.out.dat', HPS.out]; rfl, fun x hx => ?_, fun x hx => ?_, hB.grown hg5 hB.size (fun g hg => by have := (HRA.out.2.1.lt g hg).1; omega)⟩
          · rcases hmem x hx with hx | rfl
            · exact HO.out.few x hx
            · exact ⟨Nat.succ_pos _, by show n3 + 1 ≤ 31; omega⟩
          · rcases hmem x hx with hx | rfl
            · exact ((HO.out.fz x hx).below HBA.out).row HRA.out.2.1 hg5
            · exact HFZA.out.row HRA.out.2.1 hg5
        obtain ⟨A10, c10, e10, _⟩ := own_form hown5
        subst e10
        clear hown5 hg5
        go_wp2_with fail
        refine ⟨⟨k + 1, by omega, by omega, by go_num, HT5⟩, ?_⟩
        simp [intOf]; omega
      · by_cases hk1 : k < N0
        · have hk1I : (k : Int) < (N0 : Int) := by omega
          have hk2I : ¬ (k : Int) < 32 := by omega
          go_wp2_with fail
          go_meet
          exact ⟨k, hk32, HK⟩
        · have hk1I : ¬ (k : Int) < (N0 : Int) := by omega
          go_wp2_with fail
          go_meet
          exact ⟨k, hk32, HK⟩
  case rest =>
    obtain ⟨N, hN32, HO⟩ := hcut
    obtain ⟨qs, ho⟩ := HO.out
    obtain ⟨A8, c8, e8, hNc8, _, _, _⟩ := own_form ho.row.2.1
    subst e8
    have hNI : (N : Int) ≤ 32 := by omega
    have hNI0 : (0 : Int) ≤ (N : Int) := by omega
    have hNcI : (N : Int) ≤ (c8 : Int) := by omega
    have hwN : IntKind.i64.wrap ((N : Int) + 1) = (N : Int) + 1 := IntWalk.i64_in _ (by omega)
    obtain ⟨K, hK, hKN⟩ : ∃ K : Nat, a2 % ((N : Int) + 1) = (K : Int) ∧ K ≤ N := ⟨(a2 % ((N : Int) + 1)).toNat, by have := Int.emod_nonneg a2 (show ((N : Int) + 1) ≠ 0 by omega); omega, by have := Int.emod_lt_of_pos a2 (show (0 : Int) < (N : Int) + 1 by omega); have := Int.emod_nonneg a2 (show ((N : Int) + 1) ≠ 0 by omega); omega⟩
    have HPK := Lib.hid (pick_any a2 ((N : Int) + 1) wc (by omega) (by omega))
    rw [hK] at HPK
    have hKI : (K : Int) ≤ (N : Int) := by omega
    have hK0 : (0 : Int) ≤ (K : Int) := by omega
    have hKcI : (K : Int) ≤ (c8 : Int) := by omega
    clear HO hK
    go_wp2_with fail
    go_at_call 13
    refine HPK.out.mono ?_
    rintro e w2 ⟨rfl, hw2⟩
    subst hw2
    have hat : At wc (p + 1) A8 (N * 2) (its qs) := At.of_own ho.row.2.1
    have hql : qs.length = N := ho.row.1
    have hqc : LQ w wc p wc.heap.size [] := (HQ0.out.below ho.bel).raise (by have := ho.bel.size; omega) (Nat.le_refl _)
    obtain ⟨H, hH⟩ : ∃ H, wc.heap.size = H := ⟨_, rfl⟩
    rw [hH] at hqc
    have hpH : p + 1 ≤ H := by have := ho.bel.size; omega
    have hmt : (qs.take K).map dat = putsD ps K := by rw [List.map_take, ho.dat', puts_take ps N K hKN]
    have hmd : (qs.drop K).map dat = (putsD ps N).drop K := by rw [List.map_drop, ho.dat']
    have hpt : putD ([] : List (Int × List Nat)).length ((qs.take K).map dat) = putsD ps K := by rw [hmt]; exact putD_fits (puts_fit ps K) (by rw [puts_len]; show 0 + K ≤ 32; omega)
    have HPUT := Lib.hid (put_lq hqc (qs.take K) K c8 A8 (hat.head K hKN) (by omega) (by omega) (fun q hq => ⟨(ho.row.2.2 q (List.mem_of_mem_take hq)).ok, by have := (ho.few q (List.mem_of_mem_take hq)).2; omega⟩))
    rw [hpt, puts_len, List.nil_append] at HPUT
    have hlenK : (putsD ps K).length = K := puts_len ps K
    have hpd : putD (putsD ps K).length ((qs.drop K).map dat) = (putsD ps N).drop K := by
      rw [hmd, puts_len]
      exact putD_fits (fun d hd => puts_fit ps N d (List.mem_of_mem_drop hd)) (by rw [List.length_drop, puts_len]; omega)
    have hpa : putsD ps K ++ (putsD ps N).drop K = putsD ps N := by rw [← puts_take ps N K hKN, List.take_append_drop]
    have hln : (((putsD ps N).drop K).length : Int) = (N : Int) - (K : Int) := by rw [List.length_drop, puts_len]; omega
    obtain ⟨AK, hAK⟩ : ∃ x, (if c8 = K then A8 else Option.map (fun x => x.add (K * 2)) A8) = x := ⟨_, rfl⟩
    have hatt := hat.tail K c8 hKN hNc8
    rw [hAK] at hatt
    have HATT := Lib.hid hatt
    have HO := Lib.hid ho
    have HPD := Lib.hid (And.intro hpd (And.intro hpa hln))
    have hwNK : IntKind.i64.wrap ((N : Int) - (K : Int)) = (N : Int) - (K : Int) := IntWalk.i64_in _ (by omega)
    clear hat hqc hmt hmd hpt hpd hpa hln ho HPK hatt
    go_wp2_with fail
    go_at_call 7
    refine HPUT.out.mono ?_
    rintro e w3 ⟨rfl, hq3, hg3⟩
    have HPUT2 := Lib.hid (put_lq hq3 (qs.drop K) (N - K) (c8 - K) AK (HATT.out.grown hg3 (by omega)) (by omega) (by omega) (fun q hq => ⟨((HO.out.row.2.2 q (List.mem_of_mem_drop hq)).ok).grown hg3 (by omega), by have := (HO.out.few q (List.mem_of_mem_drop hq)).2; omega⟩))
    rw [HPD.out.1, HPD.out.2.1, HPD.out.2.2] at HPUT2
    have HG3 := Lib.hid hg3
    clear hq3 hg3 HPUT
    go_wp2_with fail
    go_at_call 7
    refine HPUT2.out.mono ?_
    rintro e w4 ⟨rfl, hq4, hg4⟩
    have HQ4 := Lib.hid hq4
    have HR4 := Lib.hid ((HO.out.row.grown HG3.out (by omega)).grown hg4 (by omega))
    have HF4 : Hid (∀ q ∈ qs, FzA w4 (p + 1) q.A) := fun q hq => ((HO.out.fz q hq).grown HG3.out (by omega)).grown hg4 (by omega)
    have hH4 : H ≤ w4.heap.size := by have := HG3.out.size; have := hg4.size; omega
    have HFEW := Lib.hid HO.out.few
    have HDAT := Lib.hid HO.out.dat'
    have HFH : Hid (∀ q ∈ qs, ∃ b off, q.A = some ⟨b, off, none⟩ ∧ b < H) := fun q hq => by
      obtain ⟨b, off, cur, e, _, h2⟩ := HO.out.fz q hq
      exact ⟨b, off, e, by rw [← hH]; exact (Array.getElem?_eq_some_iff.1 h2).1⟩
    have HRH : Hid (0 < N → ∃ b off, A8 = some ⟨b, off, none⟩ ∧ b < H) := fun h0 => by
      obtain ⟨b, off, e, _, h2, _⟩ := (At.of_own HO.out.row.2.1).2 (by omega)
      exact ⟨b, off, e, by rw [← hH]; exact h2⟩
    clear hq4 hg4 HPUT2 HG3 HATT HO hwNK hlenK HPD HQ0 hAK
    go_wp2_with fail
    obtain ⟨h6, hh6⟩ : ∃ x, w4.heap.size = x := ⟨_, rfl⟩
    rw [hh6] at hH4
    obtain ⟨dd, hdd⟩ : ∃ l, l1.map (· % 40) = l := ⟨_, rfl⟩
    have HDD : Hid (∀ (t : Nat) (y : Int), l1[t]? = some y → dd[t]? = some (y % 40)) := fun t y h => by rw [← hdd]; simp [h]
    have HDL : Hid (dd.length = M) := by show _ = _; rw [← hdd, List.length_map]; exact HM.out
    clear hdd
    have HWW : Hid (Below w.heap.size w w4) := HQ4.out.bel
    have hpw : p < w4.heap.size := HQ4.out.lt
    go_loopw [11, 75] (fun vw i wr => ∃ (j k : Nat), j ≤ N ∧ k ≤ j ∧ i = .int .i64 (j : Int) ∧ Hid (∃ qw, WantI w4 wr h6 vw k qw ((putsD ps j).filter (keepD dd)))) (fun _ i _ => N - (intOf i).toNat)
    case atStart => exact ⟨0, 0, Nat.zero_le _, Nat.le_refl _, rfl, [], RowQ.nil _ _, rfl, (fun _ h => by cases h), Below.refl _ _⟩
    case round =>
      obtain ⟨j, k, hj, hkj, rfl, HK⟩ := hrel
      obtain ⟨qw, hwi⟩ := HK.out
      obtain ⟨Aw, cw, ew, hkcw, _, _, _⟩ := own_form hwi.row.2.1
      subst ew
      by_cases hlt : j < N
      · have hltI : (j : Int) < (N : Int) := by omega
        have hjI : (0 : Int) ≤ (j : Int) := by omega
        obtain ⟨b8, o8, eA8, _, hb8l, hc8⟩ := (At.of_own HR4.out.2.1).2 (by omega)
        subst eA8
        obtain ⟨q, hqj⟩ : ∃ q, qs[j]? = some q := ⟨_, List.getElem?_eq_getElem (by rw [HR4.out.1]; exact hlt)⟩
        have hqm := List.mem_of_getElem? hqj
        have hqd : dat q = ((j : Int), (ps.getD j []).take 30 ++ [j]) := by
          have h1 : (qs.map dat)[j]? = some (dat q) := by rw [List.getElem?_map, hqj]; rfl
          rw [HDAT.out, puts_get ps N j hlt] at h1
          exact (Option.some.inj h1).symm
        have hqi := (HR4.out.2.2 q hqm).ok
        have hnq := HFEW.out q hqm
        have d0 := hc8 (j * 2) _ (its_get qs j q hqj 0 (by omega))
        have d1 := hc8 (j * 2 + 1) _ (its_get qs j q hqj 1 (by omega))
        obtain ⟨kq, Aq, nq, cq, bq⟩ := q
        simp only [dat, Prod.mk.injEq] at hqd
        obtain ⟨rfl, hbq⟩ := hqd
        have z0 : wr.cell? ⟨b8, o8 + j * 2, none⟩ = some (.int .i64 (j : Int)) := (hwi.bel.cell (p := ⟨b8, o8 + j * 2, none⟩) hb8l).trans d0
        have z1 : wr.cell? ⟨b8, o8 + j * 2 + 1, none⟩ = some (.slice Aq nq cq) := (hwi.bel.cell (p := ⟨b8, o8 + (j * 2 + 1), none⟩) hb8l).trans d1
        have hb8n : b8 ≠ wr.heap.size := by have := hwi.bel.size; omega
        obtain ⟨hx, hhx⟩ : ∃ x, wr.heap.size = x := ⟨_, rfl⟩
        obtain ⟨w7, hw7⟩ : ∃ x, wr.alloc (.cells #[.int .i64 (j : Int), .slice Aq nq cq] 24) = x := ⟨_, rfl⟩
        have hb7 : Below wr.heap.size wr w7 := by rw [← hw7]; exact (Below.refl _ _).alloc (Nat.le_refl _) _
        have hz7 : w7.heap.size = hx + 1 := by rw [← hw7, ← hhx]; simp
        have U0 : Hid (w7.cell? ⟨hx, 0, none⟩ = some (.int .i64 (j : Int))) := by show _ = _; rw [← hw7, ← hhx]; simp
        have U1 : Hid (w7.cell? ⟨hx, 1, none⟩ = some (.slice Aq nq cq)) := by show _ = _; rw [← hw7, ← hhx]; simp
        have HWG : Hid (∀ g, Value.ownBlock (.slice Aw k cw) = some g → g < hx) := fun g hg => by rw [← hhx]; exact (hwi.row.2.1.lt g hg).2
        have HWI7 : Hid (WantI w4 w7 h6 (.slice Aw k cw) k qw ((putsD ps j).filter (keepD dd))) := ⟨hwi.row.below hb7, hwi.dat', hwi.few, hwi.bel.trans (hb7.mono hwi.bel.size)⟩
        have HW7 : Hid (Below w.heap.size w w7) := HWW.out.trans (HWI7.out.bel.mono HWW.out.size)
        have HRB7 : Hid (Rd w7 w7.heap.size Aq nq (bv bq)) := (hqi.at'.rd.below HWI7.out.bel (Nat.le_refl _)).more (by have := HWI7.out.bel.size; omega)
        have HLT : Hid (∀ x ∈ bq, x < 256) := hqi.lt
        have hnq31 : nq ≤ 31 := hnq.2
        have hh6x : h6 ≤ hx := by rw [← hhx, ← hh6]; exact hwi.bel.size
        have HPS : Hid (putsD ps (j + 1) = putsD ps j ++ [((j : Int), bq)]) := by show _ = _; rw [puts_succ, hbq]
        clear hqj hqm hqi hnq d0 d1 hc8 hbq hwi HK hb7
        go_wp2_with fail
        go_loopw [14, 81] (fun vg i wr => ∃ t : Nat, t ≤ M ∧ i = .int .i64 (t : Int) ∧ vg = .bool (decide ((j : Int) ∈ dd.take t)) ∧ Hid (Below w7.heap.size w7 wr)) (fun _ i _ => M - (intOf i).toNat)
        case atStart => exact ⟨0, Nat.zero_le _, rfl, by simp, by first | exact Below.refl _ _ | (rw [hw7]; exact Below.refl _ _)⟩
        case round =>
          obtain ⟨t, ht, rfl, rfl, HB7⟩ := hrel
          obtain ⟨g, hg⟩ : ∃ g, decide ((j : Int) ∈ dd.take t) = g := ⟨_, rfl⟩
          by_cases htm : t < M
          · have htmI : (t : Int) < (M : Int) := by omega
            have ht0I : (0 : Int) ≤ (t : Int) := by omega
            obtain ⟨b1, o1, eA1, hb1l, hcs1⟩ := HL1.out.2 (by omega)
            subst eA1
            obtain ⟨y, hy⟩ : ∃ y, l1[t]? = some y := ⟨_, List.getElem?_eq_getElem (by have := HM.out; omega)⟩
            have ny : wr.cell? ⟨b1, o1 + t, none⟩ = some (.int .i64 y) := ((HW7.out.trans (HB7.out.mono HW7.out.size)).cell (p := ⟨b1, o1 + t, none⟩) hb1l).trans (hcs1 t _ (by simp [ints, hy]))
            have u0' : ∀ W, Below wr.heap.size wr W → W.cell? ⟨hx, 0, none⟩ = some (.int .i64 (j : Int)) := fun W hW => (hW.cell (p := ⟨hx, 0, none⟩) (by have := HB7.out.size; simp; omega)).trans ((HB7.out.cell (p := ⟨hx, 0, none⟩) (by simp; omega)).trans U0.out)
            have HS18 := Lib.hid u0'
            have HPK := Lib.hid (fun W => pick_any y 40 W (by decide) (by decide))
            obtain ⟨pv, hpv⟩ : ∃ x, y % 40 = x := ⟨_, rfl⟩
            rw [hpv] at HPK
            have HG : Hid (decide ((j : Int) ∈ dd.take (t + 1)) = (g || (pv == (j : Int)))) := by
              show _ = _
              rw [take_one dd t pv (by rw [← hpv]; exact HDD.out t y hy), ← hg, Bool.eq_iff_iff]
              simp only [decide_eq_true_eq, Bool.or_eq_true, List.mem_append, List.mem_singleton, beq_iff_eq]
              exact or_congr Iff.rfl ⟨Eq.symm, Eq.symm⟩
            have HB7d : Hid (Below w7.heap.size w7 wr.drew) := HB7.out.drew
            clear hcs1 hy hpv u0'
            rw [hg]
            clear hg
            cases g
            · go_wp2_with fail
              refine wp_region_held_drew (S := (fun W : World => W.cell? ⟨hx, 0, none⟩ = some (.int .i64 (j : Int)))) (by kernel_rfl) ?_ (fun hHeld => ?_)
              · exact HS18.out _ (Below.refl _ _).drew
              refine wpAnyH_take (i := 0) (v := ?_) rfl (by kernel_rfl) (by kernel_rfl) (by kernel_rfl) (fun _ _ _ h => h) (Or.inl ⟨by rfl, ?_⟩) (by assumption) ?_
              rotate_left
              · intro w hSw; (try dsimp only at hSw); go_simp; try with_reducible rfl
              go_simp
              refine wpAnyH_take (i := 1) (v := ?_) rfl (by kernel_rfl) (by kernel_rfl) (by kernel_rfl) (fun _ _ _ h => h) (Or.inl ⟨by rfl, ?_⟩) (by assumption) ?_
              rotate_left
              · intro w hSw; (try dsimp only at hSw); go_simp; try with_reducible rfl
              go_simp
              refine wpAnyH_take (i := 2) (v := ?_) rfl (by kernel_rfl) (by kernel_rfl) (by kernel_rfl) (fun _ _ _ h => h) (Or.inl ⟨by rfl, ?_⟩) (by assumption) ?_
              rotate_left
              · intro w hSw; (try dsimp only at hSw); go_simp; try with_reducible rfl
              go_simp
              refine wpAnyH_take (i := 4) (v := ?_) rfl (by kernel_rfl) (by kernel_rfl) (by kernel_rfl) (fun _ _ _ h => h) (Or.inl ⟨by rfl, ?_⟩) (by assumption) ?_
              rotate_left
              · intro w hSw; (try dsimp only at hSw); go_simp; try with_reducible rfl
              go_simp
              refine wpAnyH_take (i := 5) (v := ?_) rfl (by kernel_rfl) (by kernel_rfl) (by kernel_rfl) (fun _ _ _ h => h) (Or.inl ⟨by rfl, ?_⟩) (by assumption) ?_
              rotate_left
              · intro w hSw; (try dsimp only at hSw); go_simp; try with_reducible rfl
              go_simp
              refine wpAnyH_ready (rs := [3]) (by kernel_rfl) (by simp) ?_
              refine AllReadyH.cons rfl (fun K hK => ?_) AllReadyH.nil
              go_simp
              refine (HPK.out _).mono ?_
              rintro e w' ⟨rfl, hw'⟩
              subst hw'
              refine hK.out _ _ ?_ (fun hHeld => ?_)
              · exact HS18.out _ (Below.refl _ _).drew
              clear hK K
              go_simp
              refine wpAnyH_take (i := 6) (v := ?_) rfl (by kernel_rfl) (by kernel_rfl) (by kernel_rfl) (fun _ _ _ h => h) (Or.inl ⟨by rfl, ?_⟩) (by assumption) ?_
              rotate_left
              · intro w hSw; (try dsimp only at hSw); go_simp; try with_reducible rfl
              go_simp
              refine wpAnyH_take (i := 7) (v := ?_) rfl (by kernel_rfl) (by kernel_rfl) (by kernel_rfl) (fun _ _ _ h => h) (Or.inl ⟨by rfl, ?_⟩) (by assumption) ?_
              rotate_left
              · intro w hSw; (try dsimp only at hSw); go_simp; try with_reducible rfl
              go_simp
              refine wpAnyH_take (i := 8) (v := ?_) rfl (by kernel_rfl) (by kernel_rfl) (by kernel_rfl) (fun _ _ _ h => h) (Or.inl ⟨by rfl, ?_⟩) (by assumption) ?_
              rotate_left
              · intro w hSw; (try dsimp only at hSw); go_simp; try with_reducible rfl
              go_simp
              refine wpAnyH_done (by kernel_rfl) ?_ _
              go_wp2_with fail
              refine ⟨⟨t + 1, by omega, by go_num, by rw [HG.out]; rfl, HB7d⟩, ?_⟩
              simp [intOf]; omega
            · go_wp2_with fail
              refine wp_region_held_drew (S := (fun W : World => W.cell? ⟨hx, 0, none⟩ = some (.int .i64 (j : Int)))) (by kernel_rfl) ?_ (fun hHeld => ?_)
              · exact HS18.out _ (Below.refl _ _).drew
              refine wpAnyH_take (i := 0) (v := ?_) rfl (by kernel_rfl) (by kernel_rfl) (by kernel_rfl) (fun _ _ _ h => h) (Or.inl ⟨by rfl, ?_⟩) (by assumption) ?_
              rotate_left
              · intro w hSw; (try dsimp only at hSw); go_simp; try with_reducible rfl
              go_simp
              refine wpAnyH_take (i := 1) (v := ?_) rfl (by kernel_rfl) (by kernel_rfl) (by kernel_rfl) (fun _ _ _ h => h) (Or.inl ⟨by rfl, ?_⟩) (by assumption) ?_
              rotate_left
              · intro w hSw; (try dsimp only at hSw); go_simp; try with_reducible rfl
              go_simp
              refine wpAnyH_take (i := 2) (v := undef) rfl (by kernel_rfl) (by kernel_rfl) (by kernel_rfl) (fun _ _ _ h => h) (Or.inr ⟨by rfl, rfl⟩) (by assumption) ?_
              go_simp
              refine wpAnyH_take (i := 4) (v := undef) rfl (by kernel_rfl) (by kernel_rfl) (by kernel_rfl) (fun _ _ _ h => h) (Or.inr ⟨by rfl, rfl⟩) (by assumption) ?_
              go_simp
              refine wpAnyH_take (i := 5) (v := undef) rfl (by kernel_rfl) (by kernel_rfl) (by kernel_rfl) (fun _ _ _ h => h) (Or.inr ⟨by rfl, rfl⟩) (by assumption) ?_
              go_simp
              refine wpAnyH_take (i := 3) (v := undef) rfl (by kernel_rfl) (by kernel_rfl) (by kernel_rfl) (fun _ _ _ h => h) (Or.inr ⟨by rfl, rfl⟩) (by assumption) ?_
              go_simp
              refine wpAnyH_take (i := 6) (v := undef) rfl (by kernel_rfl) (by kernel_rfl) (by kernel_rfl) (fun _ _ _ h => h) (Or.inr ⟨by rfl, rfl⟩) (by assumption) ?_
              go_simp
              refine wpAnyH_take (i := 7) (v := ?_) rfl (by kernel_rfl) (by kernel_rfl) (by kernel_rfl) (fun _ _ _ h => h) (Or.inl ⟨by rfl, ?_⟩) (by assumption) ?_
              rotate_left
              · intro w hSw; (try dsimp only at hSw); go_simp; try with_reducible rfl
              go_simp
              refine wpAnyH_take (i := 8) (v := ?_) rfl (by kernel_rfl) (by kernel_rfl) (by kernel_rfl) (fun _ _ _ h => h) (Or.inl ⟨by rfl, ?_⟩) (by assumption) ?_
              rotate_left
              · intro w hSw; (try dsimp only at hSw); go_simp; try with_reducible rfl
              go_simp
              refine wpAnyH_done (by kernel_rfl) ?_ _
              go_wp2_with fail
              refine ⟨⟨t + 1, by omega, by go_num, by rw [HG.out]; rfl, HB7d⟩, ?_⟩
              simp [intOf]; omega
          · have htmI : ¬ (t : Int) < (M : Int) := by omega
            obtain rfl : t = M := by omega
            rw [List.take_of_length_le (by have := HDL.out; omega)] at hg ⊢
            have HKG : Hid (keepD dd ((j : Int), bq) = !g) := by show (!decide ((j : Int) ∈ dd)) = _; rw [hg]
            have HWI : Hid (WantI w4 wr h6 (.slice Aw k cw) k qw ((putsD ps j).filter (keepD dd))) := ⟨HWI7.out.row.below HB7.out, HWI7.out.dat', HWI7.out.few, HWI7.out.bel.trans (HB7.out.mono HWI7.out.bel.size)⟩
            rw [hg]
            clear hg
            cases g
            · obtain ⟨wd, hwd⟩ : ∃ x, wr = x := ⟨_, rfl⟩
              rw [hwd] at HWI HB7
              have HRB : Hid (Rd wd wd.heap.size Aq (nq * 1) (bv bq)) := by rw [Nat.mul_one]; exact (HRB7.out.below HB7.out (Nat.le_refl _)).more HB7.out.size
              have HS21 : Hid (∀ W, Below wd.heap.size wd W → (fun W : World => W.cell? ⟨hx, 0, none⟩ = some (.int .i64 (j : Int)) ∧ W.cell? ⟨hx, 1, none⟩ = some (.slice Aq nq cq)) W) := fun W hW => ⟨(hW.cell (p := ⟨hx, 0, none⟩) (by have := HB7.out.size; simp; omega)).trans ((HB7.out.cell (p := ⟨hx, 0, none⟩) (by simp; omega)).trans U0.out), (hW.cell (p := ⟨hx, 1, none⟩) (by have := HB7.out.size; simp; omega)).trans ((HB7.out.cell (p := ⟨hx, 1, none⟩) (by simp; omega)).trans U1.out)⟩
              have HH6 : Hid (h6 ≤ wd.heap.size) := by have := HB7.out.size; show _ ≤ _; omega
              have hnqc : (nq : Int) ≤ 31 := by omega
              go_wp2_with fail
              clear hwd
              refine wp_region_held_drew (S := (fun W : World => W.cell? ⟨hx, 0, none⟩ = some (.int .i64 (j : Int)) ∧ W.cell? ⟨hx, 1, none⟩ = some (.slice Aq nq cq))) (by kernel_rfl) ?_ (fun hHeld => ?_)
              · exact HS21.out _ (Below.refl _ _).drew
              obtain ⟨x, hx0⟩ : ∃ z, wd.drew = z := ⟨_, rfl⟩
              have HB_x : Hid (Below wd.heap.size wd x) := hx0 ▸ (Below.refl _ _).drew
              rw [hx0] at hHeld ⊢
              clear hx0
              refine wpAnyH_take (i := 0) (v := ?_) rfl (by kernel_rfl) (by kernel_rfl) (by kernel_rfl) (fun _ _ _ h => h) (Or.inl ⟨by rfl, ?_⟩) (by assumption) ?_
              rotate_left
              · intro w hSw; (try dsimp only at hSw); go_simp; try with_reducible rfl
              go_simp
              refine wpAnyH_take (i := 1) (v := ?_) rfl (by kernel_rfl) (by kernel_rfl) (by kernel_rfl) (fun _ _ _ h => h) (Or.inl ⟨by rfl, ?_⟩) (by assumption) ?_
              rotate_left
              · intro w hSw; (try dsimp only at hSw); go_simp; try with_reducible rfl
              go_simp
              refine wpAnyH_take (i := 2) (v := ?_) rfl (by kernel_rfl) (by kernel_rfl) (by kernel_rfl) (fun _ _ _ h => h) (Or.inl ⟨by rfl, ?_⟩) (by assumption) ?_
              rotate_left
              · intro w hSw; (try dsimp only at hSw); go_simp; try with_reducible rfl
              go_simp
              refine wpAnyH_take (i := 4) (v := ?_) rfl (by kernel_rfl) (by kernel_rfl) (by kernel_rfl) (fun _ _ _ h => h) (Or.inl ⟨by rfl, ?_⟩) (by assumption) ?_
              rotate_left
              · intro w hSw; (try dsimp only at hSw); go_simp; try with_reducible rfl
              go_simp
              refine wpAnyH_take (i := 5) (v := ?_) rfl (by kernel_rfl) (by kernel_rfl) (by kernel_rfl) (fun _ _ _ h => h) (Or.inl ⟨by rfl, ?_⟩) (by assumption) ?_
              rotate_left
              · intro w hSw; (try dsimp only at hSw); go_simp; try with_reducible rfl
              go_simp
              refine wpAnyH_ready (rs := [3]) (by kernel_rfl) (by simp) ?_
              refine AllReadyH.cons rfl (fun K hK => ?_) AllReadyH.nil
              go_simp
              have hb := (HB_x.out).alloc HB_x.out.size (.cells #[] 5)
              have he : (World.alloc x (.cells #[] 5)).ownsRow wd.heap.size 5 1 (.slice (some ⟨(World.heap x).size, 0, none⟩) 0 0) 0 [] := own_new x #[] _ 1 0 (World.heap x).size wd.heap.size rfl rfl (by unfold maxLen; omega) HB_x.out.size
              obtain ⟨g1, hg1⟩ : ∃ z, (World.heap x).size = z := ⟨_, rfl⟩
              obtain ⟨xe, hxe⟩ : ∃ z, World.alloc x (.cells #[] 5) = z := ⟨_, rfl⟩
              rw [hxe] at hb he
              rw [hg1] at he
              have HB_e := Lib.hid hb
              have HE_e := Lib.hid he
              clear hb he
              first | rw [hg1, hxe] | rw [hxe, hg1] | rw [hxe] | skip
              clear hxe hg1
              refine hK.out _ _ ?_ (fun hHeld => ?_)
              · exact HS21.out _ HB_e.out
              clear hK K
              go_simp
              refine wpAnyH_ready (rs := [6]) (by kernel_rfl) (by simp) ?_
              refine AllReadyH.cons rfl (fun K hK => ?_) AllReadyH.nil
              refine step_own rfl (.tmp 99) (.tmp 101) 22 rfl wd.heap.size 5 i1 (.int .u8 0) 1 1 Try.underlying22 HJ.out.1 HJ.out.2.1 HJ.out.2.2.1 HJ.out.2.2.2 rfl (by decide) (.slice (some ⟨g1, 0, none⟩) 0 0) 0 [] (by simp [Act.eval, Act.put]) HE_e.out wd.heap.size Aq nq cq (bv bq) (by simp [Act.eval, Act.put]) (HRB.out.below HB_e.out (Nat.le_refl _)) (ones_bv _) (by unfold maxLen; omega) (by omega) HB_e.out.size ?_
              intro v8 x8 ho8 hg8
              obtain ⟨A9, c9, e9, hc9, _⟩ := own_form ho8
              subst e9
              have HB_8 : Hid (Below wd.heap.size wd x8) := HB_e.out.grown hg8 HB_e.out.size (fun g hg => (HE_e.out.lt g hg).1)
              have hr8 : World.ownsRow x8 wd.heap.size 5 1 (.slice A9 (0 + nq) c9) nq (bv bq) := by simpa using ho8
              simp only [Nat.zero_add] at hr8 hc9 ⊢
              have HIT8 : Hid (ItB x8 h6 ⟨(j : Int), A9, nq, c9, bq⟩) := itb_own (own_base hr8 HH6.out) HLT.out hc9 _
              clear hr8 ho8 hg8
              refine hK.out _ _ ?_ (fun hHeld => ?_)
              · exact HS21.out _ HB_8.out
              clear hK K
              go_simp
              refine wpAnyH_take (i := 7) (v := ?_) rfl (by kernel_rfl) (by kernel_rfl) (by kernel_rfl) (fun _ _ _ h => h) (Or.inl ⟨by rfl, ?_⟩) (by assumption) ?_
              rotate_left
              · intro w hSw; (try dsimp only at hSw); go_simp; try with_reducible rfl
              go_simp
              refine wpAnyH_ready (rs := [8]) (by kernel_rfl) (by simp) ?_
              refine AllReadyH.cons rfl (fun K hK => ?_) AllReadyH.nil
              go_simp
              have hb := (Below.refl (World.heap x8).size x8).alloc (Nat.le_refl _) (.cells #[.int .i64 (j : Int), .slice A9 nq c9] 24)
              have hp := rd_new x8 #[.int .i64 (j : Int), .slice A9 nq c9] 24 (World.heap x8).size ((World.heap x8).size + 1) (1 * 2) (itC ⟨(j : Int), A9, nq, c9, bq⟩) rfl (Nat.lt_succ_self _) rfl rfl
              have hit := HIT8.out.below hb
              have hbb := HB_8.out.trans (hb.mono HB_8.out.size)
              obtain ⟨g4, hg4⟩ : ∃ z, (World.heap x8).size = z := ⟨_, rfl⟩
              obtain ⟨xa, hxa⟩ : ∃ z, World.alloc x8 (.cells #[.int .i64 (j : Int), .slice A9 nq c9] 24) = z := ⟨_, rfl⟩
              rw [hxa] at hp hit hbb
              rw [hg4] at hp
              have HP_a := Lib.hid hp
              have HIT_a := Lib.hid hit
              have HB_a := Lib.hid hbb
              have HR_a := Lib.hid (HWI.out.row.below hbb)
              clear hb hp hit hbb
              first | rw [hg4, hxa] | rw [hxa, hg4] | rw [hxa] | skip
              clear hxa hg4
              refine hK.out _ _ ?_ (fun hHeld => ?_)
              · exact HS21.out _ HB_a.out
              clear hK K
              go_simp
              refine wpAnyH_ready (rs := [9]) (by kernel_rfl) (by simp) ?_
              refine AllReadyH.cons rfl (fun K hK => ?_) AllReadyH.nil
              refine step_own rfl (.tmp 96) (.tmp 104) 29 rfl h6 24 i0 (.agg #[.int .i64 0, .slice none 0 0]) 2 32 Try.underlying29 HI.out.1 HI.out.2.1 HI.out.2.2.1 HI.out.2.2.2 rfl (by decide) (.slice Aw k cw) k (its qw) (by simp [Act.eval, Act.put]) HR_a.out.2.1 (g4 + 1) (some ⟨g4, 0, none⟩) 1 1 (itC ⟨(j : Int), A9, nq, c9, bq⟩) (by simp [Act.eval, Act.put]) HP_a.out (fun u hu => by simp [itC] at hu; rcases hu with rfl | rfl <;> rfl) (by unfold maxLen; omega) (by omega) (Nat.le_trans HH6.out HB_a.out.size) ?_
              intro v10 z ho10 hg10
              have hT : WantI w4 z h6 v10 (k + 1) (qw ++ [⟨(j : Int), A9, nq, c9, bq⟩]) ((putsD ps (j + 1)).filter (keepD dd)) := by
                have hB : Below w4.heap.size w4 xa := HWI.out.bel.trans (HB_a.out.mono HWI.out.bel.size)
                refine ⟨HR_a.out.push HIT_a.out ho10 hg10, by rw [List.map_append, HWI.out.dat', HPS.out, List.filter_append]; congr 1; simp [List.filter_cons, HKG.out, dat], fun q hq => ?_, hB.grown hg10 hB.size (fun g hg => by have := (HR_a.out.2.1.lt g hg).1; rw [hh6]; exact this)⟩
                rw [List.mem_append] at hq
                rcases hq with hq | hq
                · exact HWI.out.few q hq
                · have : q = ⟨(j : Int), A9, nq, c9, bq⟩ := by simpa using hq
                  subst this
                  exact hnq31
              obtain ⟨A11, c11, e11, _⟩ := own_form ho10
              subst e11
              have HT := Lib.hid hT
              have HSZ : Hid (z.cell? ⟨hx, 0, none⟩ = some (.int .i64 (j : Int)) ∧ z.cell? ⟨hx, 1, none⟩ = some (.slice Aq nq cq)) := by
                obtain ⟨s0, s1⟩ := HS21.out _ HB_a.out
                have hne : some hx ≠ Value.ownBlock (.slice Aw k cw) := fun e => by
                  have := HWG.out hx e.symm
                  omega
                exact ⟨hg10.cell s0 (by first | exact hne | exact fun e => hne e.symm), hg10.cell s1 (by first | exact hne | exact fun e => hne e.symm)⟩
              clear ho10 hg10 hT
              refine hK.out _ _ ?_ (fun hHeld => ?_)
              · exact HSZ.out
              clear hK K
              go_simp
              refine wpAnyH_take (i := 10) (v := ?_) rfl (by kernel_rfl) (by kernel_rfl) (by kernel_rfl) (fun _ _ _ h => h) (Or.inl ⟨by rfl, ?_⟩) (by assumption) ?_
              rotate_left
              · intro w hSw; (try dsimp only at hSw); go_simp; try with_reducible rfl
              go_simp
              refine wpAnyH_done (by kernel_rfl) ?_ _
              go_wp2_with fail
              refine ⟨⟨j + 1, k + 1, by omega, by omega, by go_num, _, HT.out⟩, ?_⟩
              simp [intOf]; omega
            · have HNO : Hid (∃ qw, WantI w4 wr h6 (.slice Aw k cw) k qw ((putsD ps (j + 1)).filter (keepD dd))) := ⟨qw, HWI.out.row, by rw [HWI.out.dat', HPS.out, List.filter_append]; simp [HKG.out], HWI.out.few, HWI.out.bel⟩
              go_wp2_with fail
              refine ⟨⟨j + 1, k, by omega, by omega, by go_num, HNO⟩, ?_⟩
              simp [intOf]; omega
      · have hltI : ¬ (j : Int) < (N : Int) := by omega
        obtain rfl : j = N := by omega
        have HWI := Lib.hid hwi
        clear HK hwi
        have HMI0 : Hid (MutI w wr p H h6 (putsD ps j) A8 j (.slice Aw k cw) k qw) := ⟨HQ4.out.below HWI.out.bel, HWI.out.row, fun b8 o8 e => by subst e; exact mut_start HR4.out HFEW.out HF4.out HFH.out HWI.out.bel⟩
        have HWD : Hid (qw.map dat = (putsD ps j).filter (keepD dd) ∧ ∀ q ∈ qw, q.n ≤ 31) := ⟨HWI.out.dat', HWI.out.few⟩
        have hkq : qw.length = k := HWI.out.row.1
        obtain ⟨N, hNe⟩ : ∃ N, j = N := ⟨_, rfl⟩
        subst hNe
        clear HWI
        go_wp2_with fail
        go_loopw [109] (fun i wx => ∃ t : Nat, t ≤ j ∧ i = .int .i64 (t : Int) ∧ Hid (MutI w wx p H h6 (putsD ps j) A8 j (.slice Aw k cw) k qw)) (fun i _ => j - (intOf i).toNat)
        case atStart => exact ⟨0, Nat.zero_le _, rfl, HMI0.out⟩
        case round =>
          obtain ⟨t, ht, rfl, HMI⟩ := hrel
          by_cases htn : t < j
          · have htnI : (t : Int) < (j : Int) := by omega
            have ht0I : (0 : Int) ≤ (t : Int) := by omega
            obtain ⟨b8, o8, eA8, hb8H⟩ := HRH.out (by omega)
            subst eA8
            have hb8p : p + 1 ≤ b8 := by
              obtain ⟨b', o', e', h1, _⟩ := (At.of_own HR4.out.2.1).2 (by omega)
              cases e'
              exact h1
            obtain ⟨bt, ot, nt, ct, x, u, m1, m2, m3, m4, m5, m6, m7, m8, m9, m10⟩ := HMI.out.mt b8 o8 rfl t htn
            have hntI : (0 : Int) < (nt : Int) := by omega
            have hntc : (nt : Int) ≤ (ct : Int) := by omega
            have m8' : b8 ≠ bt := fun e => m8 e.symm
            have HST : Hid (∀ y, MutI w ((wr.setCell ⟨bt, ot, none⟩ (.int .u8 y)).setCell ⟨b8, o8 + t * 2, none⟩ (.int .i64 (-1))) p H h6 (putsD ps j) (some ⟨b8, o8, none⟩) j (.slice Aw k cw) k qw) := fun y => HMI.out.step hH4 hb8p hb8H m6 m7 m8 m4 m9
            clear HMI
            go_wp2_with fail
            refine ⟨⟨t + 1, by omega, by go_num, HST.out _⟩, ?_⟩
            simp [intOf]; omega
          · have htnI : ¬ (t : Int) < (j : Int) := by omega
            obtain rfl : t = j := by omega
            go_wp2_with fail
            go_at_call 8
            refine (len_lq HMI.out.lq).mono ?_
            rintro e w' ⟨rfl, hw'⟩
            subst hw'
            rw [puts_len]
            go_wp2_with fail
            go_loopw [19, 129] (fun vd i wr => ∃ (s D : Nat), s ≤ M ∧ i = .int .i64 (s : Int) ∧ vd = .int .i64 (D : Int) ∧ D ≤ t ∧ Hid (LQ w wr p H ((putsD ps t).filter (keepD (dd.take s))) ∧ RowQ wr h6 (.slice Aw k cw) k qw ∧ D + ((putsD ps t).filter (keepD (dd.take s))).length = t)) (fun _ i _ => M - (intOf i).toNat)
            case atStart => exact ⟨0, 0, Nat.zero_le _, rfl, rfl, Nat.zero_le _, by rw [List.take_zero, keep_nil]; exact HMI.out.lq, HMI.out.row, by rw [List.take_zero, keep_nil, puts_len]; omega⟩
            case round =>
              obtain ⟨s, D, hs, rfl, rfl, hDN, HK⟩ := hrel
              obtain ⟨hlq, hrw, hDe⟩ := HK.out
              have hDI : (D : Int) ≤ 32 := by omega
              have hD0I : (0 : Int) ≤ (D : Int) := by omega
              by_cases hsM : s < M
              · have hsMI : (s : Int) < (M : Int) := by omega
                have hs0I : (0 : Int) ≤ (s : Int) := by omega
                obtain ⟨b1, o1, eA1, hb1l, hcs1⟩ := HL1.out.2 (by omega)
                subst eA1
                obtain ⟨y, hy⟩ : ∃ y, l1[s]? = some y := ⟨_, List.getElem?_eq_getElem (by have := HM.out; omega)⟩
                have ny : wr.cell? ⟨b1, o1 + s, none⟩ = some (.int .i64 y) := (hlq.bel.cell (p := ⟨b1, o1 + s, none⟩) hb1l).trans (hcs1 s _ (by simp [ints, hy]))
                have HPK := Lib.hid (pick_any y 40 wr (by decide) (by decide))
                obtain ⟨pv, hpv⟩ : ∃ x, y % 40 = x := ⟨_, rfl⟩
                rw [hpv] at HPK
                have htk : dd.take (s + 1) = dd.take s ++ [pv] := take_one dd s pv (by rw [← hpv]; exact HDD.out s y hy)
                obtain ⟨es, hes⟩ : ∃ l, (putsD ps t).filter (keepD (dd.take s)) = l := ⟨_, rfl⟩
                have hes2 : (putsD ps t).filter (keepD (dd.take (s + 1))) = es.filter (keepD [pv]) := by rw [htk, ← keep_snoc, hes]
                rw [hes] at hlq hDe
                obtain ⟨es2, hes2'⟩ : ∃ l, es.filter (keepD [pv]) = l := ⟨_, rfl⟩
                rw [hes2'] at hes2
                have hle : es2.length ≤ es.length := by rw [← hes2']; exact List.length_filter_le _ _
                have HDR := Lib.hid (drop_lq (hlq.alloc (.cells #[.int .i64 pv] 3)) [pv] 1 1 (some ⟨wr.heap.size, 0, none⟩) (at_new _ _ _ _ _ _ _ rfl hlq.lt rfl rfl) (Nat.le_refl _) (by omega))
                rw [hes2'] at HDR
                obtain ⟨e1, he1⟩ : ∃ n, es.length = n := ⟨_, rfl⟩
                obtain ⟨e2, he2⟩ : ∃ n, es2.length = n := ⟨_, rfl⟩
                rw [he1, he2] at HDR
                rw [he1] at hDe hle
                rw [he2] at hle
                have hwD : IntKind.i64.wrap ((D : Int) + ((e1 : Int) - (e2 : Int))) = ((D + (e1 - e2) : Nat) : Int) := by rw [IntWalk.i64_in _ (by omega)]; omega
                have HRW := Lib.hid (hrw.below ((Below.refl wr.heap.size wr).alloc (Nat.le_refl _) (.cells #[.int .i64 pv] 3)))
                have HE2 : Hid ((putsD ps t).filter (keepD (dd.take (s + 1))) = es2 ∧ es2.length = e2) := ⟨hes2, he2⟩
                clear hcs1 hy hpv htk hes hes2 hes2' he1 he2 hlq hrw HK
                go_wp2_with fail
                go_at_call 13
                refine HPK.out.mono ?_
                rintro e w3 ⟨rfl, hw3⟩
                subst hw3
                go_wp2_with fail
                go_at_call 9
                refine HDR.out.mono ?_
                rintro e w5 ⟨rfl, hq5, hg5⟩
                have HN : Hid (LQ w w5 p H ((putsD ps t).filter (keepD (dd.take (s + 1)))) ∧ RowQ w5 h6 (.slice Aw k cw) k qw ∧ D + (e1 - e2) + ((putsD ps t).filter (keepD (dd.take (s + 1)))).length = t) := ⟨by rw [HE2.out.1]; exact hq5, HRW.out.grown hg5 (by omega), by rw [HE2.out.1, HE2.out.2]; omega⟩
                clear hq5 hg5 HDR HRW HE2
                go_wp2_with fail
                refine ⟨⟨s + 1, D + (e1 - e2), by omega, by go_num, by go_num, by omega, HN⟩, ?_⟩
                simp [intOf]; omega
              · have hsMI : ¬ (s : Int) < (M : Int) := by omega
                obtain rfl : s = M := by omega
                rw [List.take_of_length_le (by have := HDL.out; omega)] at hlq hDe
                obtain ⟨es, hes⟩ : ∃ l, (putsD ps t).filter (keepD dd) = l := ⟨_, rfl⟩
                have HES : Hid (qw.map dat = es ∧ ∀ q ∈ qw, q.n ≤ 31) := by rw [← hes]; exact HWD
                rw [hes] at hlq hDe
                have hek : es.length = k := by rw [← HES.out.1, List.length_map]; exact hkq
                rw [hek] at hDe
                have hwN' : IntKind.i64.wrap ((t : Int) - (D : Int)) = (k : Int) := by rw [IntWalk.i64_in _ (by omega)]; omega
                have HLQ := Lib.hid hlq
                have HRW := Lib.hid hrw
                clear hlq hrw HK hes HWD
                go_wp2_with fail
                go_at_call 12
                refine (known_any _).mono ?_
                rintro e w5 ⟨rfl, hb5⟩
                have HL5 := Lib.hid (HLQ.out.below hb5)
                have HR5 := Lib.hid (HRW.out.below hb5)
                clear hb5
                go_wp2_with fail
                go_loopw [152] (fun i wr => ∃ u : Nat, u ≤ k ∧ i = .int .i64 (u : Int) ∧ Hid (LQ w wr p H (es.drop u) ∧ RowQ wr h6 (.slice Aw k cw) k qw)) (fun i _ => k - (intOf i).toNat)
                case atStart => exact ⟨0, Nat.zero_le _, rfl, by rw [List.drop_zero]; exact HL5.out, HR5.out⟩
                case round =>
                  obtain ⟨t', htk', rfl, HK⟩ := hrel
                  obtain ⟨hlq, hrw⟩ := HK.out
                  by_cases htk : t' < k
                  · have htkI : (t' : Int) < (k : Int) := by omega
                    have ht'I : (0 : Int) ≤ (t' : Int) := by omega
                    obtain ⟨bw, ow, eAw, hbwlo, hbwl, hcw⟩ := (At.of_own hrw.2.1).2 (by omega)
                    subst eAw
                    obtain ⟨q, hqt⟩ : ∃ q, qw[t']? = some q := ⟨_, List.getElem?_eq_getElem (by rw [hrw.1]; exact htk)⟩
                    have hqm := List.mem_of_getElem? hqt
                    have hdrop : es.drop t' = dat q :: es.drop (t' + 1) := by
                      have h1 : es[t']? = some (dat q) := by rw [← HES.out.1, List.getElem?_map, hqt]; rfl
                      obtain ⟨hlt', h2⟩ := List.getElem?_eq_some_iff.1 h1
                      rw [List.drop_eq_getElem_cons hlt', h2]
                    rw [hdrop] at hlq
                    have d0 := hcw (t' * 2) _ (its_get qw t' q hqt 0 (by omega))
                    have d1 := hcw (t' * 2 + 1) _ (its_get qw t' q hqt 1 (by omega))
                    have hqi := (hrw.2.2 q hqm).ok
                    obtain ⟨kq, Aq, nq, cq, bq⟩ := q
                    have z0 : wr.cell? ⟨bw, ow + t' * 2, none⟩ = some (.int .i64 kq) := d0
                    have z1 : wr.cell? ⟨bw, ow + t' * 2 + 1, none⟩ = some (.slice Aq nq cq) := d1
                    have hbwn : bw ≠ wr.heap.size := by omega
                    obtain ⟨hx, hhx⟩ : ∃ x, wr.heap.size = x := ⟨_, rfl⟩
                    obtain ⟨w7, hw7⟩ : ∃ x, wr.alloc (.cells #[.int .i64 kq, .slice Aq nq cq] 24) = x := ⟨_, rfl⟩
                    have hb7 : Below wr.heap.size wr w7 := by rw [← hw7]; exact (Below.refl _ _).alloc (Nat.le_refl _) _
                    have u0 : w7.cell? ⟨hx, 0, none⟩ = some (.int .i64 kq) := by rw [← hw7, ← hhx]; simp
                    have u1 : w7.cell? ⟨hx, 1, none⟩ = some (.slice Aq nq cq) := by rw [← hw7, ← hhx]; simp
                    have hph : p < hx := by rw [← hhx]; exact hlq.lt
                    have HLQ7 := Lib.hid (hlq.below hb7)
                    have HRW7 := Lib.hid (hrw.below hb7)
                    have HQI7 := Lib.hid (hqi.below hb7)
                    clear hqt hqm d0 d1 hqi hcw hdrop hlq hrw hb7 HK
                    go_wp2_with fail
                    go_at_call 10
                    refine (pop_cons HLQ7.out).mono ?_
                    rintro e w8 ⟨⟨k5, A5, n5, c5, bs5⟩, rfl, hd5, hi5, hq8, hg8⟩
                    simp only [dat, Prod.mk.injEq] at hd5
                    obtain ⟨rfl, rfl⟩ := hd5
                    have u0 := hg8.cell u0 (by simp; omega)
                    have u1 := hg8.cell u1 (by simp; omega)
                    have hxl : hx < w8.heap.size := cell_lt u0
                    obtain ⟨hv, hhv⟩ : ∃ x, w8.heap.size = x := ⟨_, rfl⟩
                    obtain ⟨w9, hw9⟩ : ∃ x, w8.alloc (.cells #[.int .i64 k5, .slice A5 n5 c5] 24) = x := ⟨_, rfl⟩
                    have hb9 : Below w8.heap.size w8 w9 := by rw [← hw9]; exact (Below.refl _ _).alloc (Nat.le_refl _) _
                    have v0 : w9.cell? ⟨hv, 0, none⟩ = some (.int .i64 k5) := by rw [← hw9, ← hhv]; simp
                    have v1 : w9.cell? ⟨hv, 1, none⟩ = some (.slice A5 n5 c5) := by rw [← hw9, ← hhv]; simp
                    have u0 := (hb9.cell (p := ⟨hx, 0, none⟩) (cell_lt u0)).trans u0
                    have u1 := (hb9.cell (p := ⟨hx, 1, none⟩) (cell_lt u1)).trans u1
                    have hxv : hx ≠ hv := by omega
                    have cv1 := conv_it (c := c5) ((hi5.below hb9).at'.rd)
                    have cv2 := conv_it (c := cq) (((HQI7.out.grown hg8 (by omega)).below hb9).at'.rd)
                    simp only at cv1 cv2
                    have HN : Hid (LQ w w9 p H (es.drop (t' + 1)) ∧ RowQ w9 h6 (.slice (some ⟨bw, ow, none⟩) k cw) k qw) := ⟨hq8.below hb9, (HRW7.out.grown hg8 (by omega)).below hb9⟩
                    clear hi5 hq8 hg8 hb9 HLQ7 HRW7 HQI7
                    go_wp2_with fail
                    refine ⟨⟨t' + 1, by omega, by go_num, HN⟩, ?_⟩
                    simp [intOf]; omega
                  · have htkI : ¬ (t' : Int) < (k : Int) := by omega
                    obtain rfl : t' = k := by omega
                    rw [List.drop_of_length_le (by omega)] at hlq
                    have HLF := Lib.hid hlq
                    clear hlq hrw HK
                    go_wp2_with fail
                    go_at_call 8
                    refine (len_lq HLF.out).mono ?_
                    rintro e w' ⟨rfl, hw'⟩
                    subst hw'
                    rw [show ((([] : List (Int × List Nat)).length : Nat) : Int) = 0 from rfl]
                    go_wp2_with fail
                    go_ret
                    exact ⟨rfl, HLF.out.bel⟩
end Go.Proofs.Ytlaopkkfgkcejaa.Qu
