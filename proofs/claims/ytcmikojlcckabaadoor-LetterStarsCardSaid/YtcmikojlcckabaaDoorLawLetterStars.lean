/- Whatever the two texts and the number, LetterStars answers true and they read behind the call as before: where utf8's two tables hold what the library's text lays (the card ties that). -/
import Derived.Test.YtcmikojlcckabaaDoorDoor
import Derived.Test.YtcmikojlcckabaaDoorStars
namespace Go.Proofs.YtcmikojlcckabaaDoor.letterStars
open Go.ChangeShapes Go.WideShapes Go.ChangeAt Go.RowKit
open Go.ChangeMaps (open_string shut_string)
set_option linter.unusedVariables false

set_option maxHeartbeats 4000000 in
set_option maxRecDepth 100000 in
theorem walk (a0 : ByteArray) (a1 : ByteArray) (a2 : Int) (w0 : a0.size ≤ maxLen) (w1 : a1.size ≤ maxLen) (w2 : (Lit.int .i64 a2).wf = true) (w : World)  (hT : Lib.Utf8Tabs 0 1 w) :
    Calls Tryd.prog 6 #[.string a0, .string a1, .int .i64 a2] w fun e w' => e = .returned (.bool true) ∧ Below w.heap.size w w' := by
  have hb2 := bounds_i64 w2
  obtain ⟨hn0, hn1⟩ := hb2
  clear w0 w1 w2
  have HT := Lib.hid hT
  clear hT
  by_cases hbig : 150 < a0.size ∨ 150 < a1.size
  · have hsp : 150 < a0.size ∨ (a0.size ≤ 150 ∧ 150 < a1.size) := by omega
    clear hbig
    rcases hsp with h | ⟨h, h'⟩
    all_goals
      go_enter Tryd.func6, Tryd.ntmps6
      go_wp2_with fail
      refine (awake_any _).mono ?_
      rintro e w1 ⟨rfl, b1⟩
      go_wp2_with fail
      refine (awake_any _).mono ?_
      rintro e w2 ⟨rfl, b2⟩
      go_wp2_with fail
      go_ret
      exact ⟨rfl, bt b1 b2⟩
  · have s0 : a0.size ≤ 150 := by omega
    have s1 : a1.size ≤ 150 := by omega
    have hl0 := runes_le a0
    have hl1 := runes_le a1
    have c1 := fun W => refRunes_any a1 W (by omega)
    have c2 := fun W => like_any a0 a1 W (by omega) (by omega)
    have c3 := fun W hW => compare_any a0 a1 W (by omega) (by omega) hW
    have hok := okR_runes a1.data.toList
    have hrs : runes a0.data.toList = runes a0.data.toList := rfl
    obtain ⟨rs, hrse⟩ : ∃ rs, runes a0.data.toList = rs := ⟨_, rfl⟩
    have HRs := Lib.hid hrse
    rw [hrse] at hl0 c2 c3
    clear hrs hrse
    generalize runes a1.data.toList = ps at *
    have C1 := Lib.hid c1; have C2 := Lib.hid c2; have C3 := Lib.hid c3; have HOk := Lib.hid hok
    clear c1 c2 c3 hok hbig
    have g0 : rs.length ≤ 150 := by omega
    have g1 : ps.length ≤ 150 := by omega
    clear hl0 hl1
    go_enter Tryd.func6, Tryd.ntmps6
    go_wp2_with fail
    refine (awake_any _).mono ?_
    rintro e w1 ⟨rfl, b1⟩
    go_wp2_with fail
    refine (C1.out _).mono ?_
    rintro e w2 ⟨v, rfl, hrow, b2⟩
    obtain ⟨A, c, rfl, hnc, hrd⟩ := hrow.rd
    have HRd := Lib.hid hrd
    have HB := Lib.hid (bt b1 b2)
    clear hrow hrd b1 b2
    go_wp2_with fail
    go_loop [8, 9] (fun x i => ∃ k : Nat, k ≤ ps.length ∧ i = .int .i64 (k : Nat) ∧ x = .bool ((ps.take k).all plainR)) (fun _ i => ps.length - (intOf i).toNat)
    case atStart => exact ⟨0, Nat.zero_le _, rfl, rfl⟩
    case round =>
      obtain ⟨k, hk, rfl, rfl⟩ := hrel
      by_cases hlt : k < ps.length
      · obtain ⟨ad, rfl, hcell⟩ := HRd.out.at1 hlt
        have hall : (ps.take (k + 1)).all plainR = ((ps.take k).all plainR && plainR (ps.getD k 0)) := by
          rw [List.take_succ_eq_append_getElem hlt, List.all_append]
          simp [List.getD_eq_getElem?_getD, List.getElem?_eq_getElem hlt]
        obtain ⟨p, hp⟩ : ∃ p, ps.getD k 0 = p := ⟨_, rfl⟩
        obtain ⟨al, hal⟩ : ∃ al, (ps.take k).all plainR = al := ⟨_, rfl⟩
        rw [hp, hal] at hall
        rw [hp] at hcell
        rw [hal]
        have HAll := Lib.hid hall
        clear hall hp hal
        cases al
        · go_wp2_with fail
          go_round
          case rel => exact ⟨k + 1, by omega, by go_num, by rw [HAll.out]; rfl⟩
          case measure => simp [intOf]; omega
        · cases e1 : (p != 42)
          all_goals (cases e2 : (p != 63))
          all_goals (go_wp2_with fail)
          all_goals go_round
          all_goals first
            | (exact ⟨k + 1, by omega, by go_num, by rw [HAll.out]; unfold plainR; rw [e1, e2]; rfl⟩)
            | (simp [intOf]; omega)
      · obtain rfl : k = ps.length := by omega
        rw [List.take_length]
        obtain ⟨pl, hpl⟩ : ∃ pl, ps.all plainR = pl := ⟨_, rfl⟩
        rw [hpl]
        have HPl := Lib.hid hpl
        clear hpl
        obtain ⟨fb, hfb⟩ : ∃ fb, fitsL rs.reverse ps.reverse = fb := ⟨_, rfl⟩
        have c2 : ∀ W, Calls Tryd.prog 16 #[.string a0, .string a1] W fun e w' => e = .returned (.tuple #[.bool fb, .int .i64 0]) ∧ Below W.heap.size W w' := fun W => by
          have := C2.out W
          unfold likeR at this
          rw [if_neg (by omega), hfb] at this
          exact this
        have HFb := Lib.hid hfb
        have C2' := Lib.hid c2
        clear c2 C2 hfb
        obtain ⟨m, hm⟩ : ∃ m, a2.tmod ((ps.length : Int) + 1) = m := ⟨_, rfl⟩
        have hmb := tmod_bounds a2 ps.length
        rw [hm] at hmb
        obtain ⟨hm0, hm1⟩ := hmb
        obtain ⟨K, hKn, hKe⟩ := mod_nat (m + (ps.length : Int) + 1) ps.length
        go_wp2_with fail
        refine (C2'.out _).mono ?_
        rintro e w3 ⟨rfl, b3⟩
        go_wp2_with fail
        rw [hKe]
        clear hm hKe
        have hKc : K ≤ c := by omega
        have hrw := (HRd.out.below (Nat.le_refl _) b3)
        have hT1 : ∀ W, Rd W A ps → Calls Tryd.prog 15 #[.slice A K c] W fun e w'' => e = .returned (.string ⟨(text (ps.take K)).toArray⟩) ∧ w'' = W := fun W h1 => by
          have h3 : Rd W A (ps.take K) := h1.take K
          have h4 := refText_any A c (ps.take K) W h3 (by rw [List.length_take]; omega) (by rw [List.length_take]; omega)
          rw [List.length_take, Nat.min_eq_left hKn] at h4
          exact h4.mono fun _ _ ⟨x, y⟩ => ⟨x, y.symm⟩
        have hT2 : ∀ W, Rd W A ps → Calls Tryd.prog 15 #[.slice (if c = K then A else Option.map (fun x => x.add K) A) (ps.length - K) (c - K)] W fun e w'' => e = .returned (.string ⟨(text (ps.drop K)).toArray⟩) ∧ w'' = W := fun W h1 => by
          have h3 : Rd W (if c = K then A else Option.map (fun x => x.add K) A) (ps.drop K) := h1.drop hnc
          have h4 := refText_any _ (c - K) (ps.drop K) W h3 (by rw [List.length_drop]; omega) (by rw [List.length_drop]; omega)
          rw [List.length_drop] at h4
          exact h4.mono fun _ _ ⟨x, y⟩ => ⟨x, y.symm⟩
        have hv := star_text a0 ps K (by omega) HOk.out
        have hlk := fun W => like_any a0 (⟨(text (ps.take K)).toArray⟩ ++ ⟨#[42]⟩ ++ ⟨(text (ps.drop K)).toArray⟩) W (by omega) (by have := hv.1; omega)
        have hts1 : (⟨(text (ps.take K)).toArray⟩ : ByteArray).size ≤ 600 := hv.2.1
        have hts2 : (⟨(text (ps.drop K)).toArray⟩ : ByteArray).size ≤ 600 := hv.2.2.1
        rw [hv.2.2.2] at hlk
        clear hv
        generalize (⟨(text (ps.take K)).toArray⟩ : ByteArray) = U at *
        generalize (⟨(text (ps.drop K)).toArray⟩ : ByteArray) = V at *
        have hgb : ∃ gb, fitsL rs.reverse (ps.take K ++ 42 :: ps.drop K).reverse = gb := ⟨_, rfl⟩
        obtain ⟨gb, hgb⟩ := hgb
        have hmore : fb = true → gb = true := fun h => by
          rw [← hgb, List.reverse_append, List.reverse_cons, List.append_assoc]
          refine fitsL_more (ps.take K).reverse _ rs.reverse (ps.drop K).reverse (Nat.le_refl _) ?_
          rw [← List.reverse_append, List.take_append_drop, HFb.out, h]
        have hlk2 : ∀ W, Calls Tryd.prog 16 #[.string a0, .string (U ++ ⟨#[42]⟩ ++ V)] W fun e w' => e = .returned (.tuple #[.bool gb, .int .i64 0]) ∧ Below W.heap.size W w' := fun W => by
          have := hlk W
          unfold likeR at this
          rw [HRs.out, if_neg (by rw [List.length_append, List.length_cons, List.length_take, List.length_drop]; omega), hgb] at this
          exact this
        have hcm : pl = true → ((cmpL rs ps == 0) = fb) := fun h => by
          have hp : ∀ x ∈ ps.reverse, x ≠ 42 ∧ x ≠ 63 := fun x hx => by
            have h1 := List.all_eq_true.1 (HPl.out.trans h) x (List.mem_reverse.1 hx)
            unfold plainR at h1
            rw [Bool.and_eq_true, bne_iff_ne, bne_iff_ne] at h1
            exact h1
          have h2 := fitsL_plain rs.reverse ps.reverse hp
          rw [HFb.out] at h2
          rw [Bool.eq_iff_iff, beq_iff_eq, cmpL_zero, h2]
          exact ⟨fun h3 => by rw [h3], fun h3 => List.reverse_inj.1 h3⟩
        have HT1 := Lib.hid hT1
        have HT2 := Lib.hid hT2
        have HLk := Lib.hid hlk2
        have HMore := Lib.hid hmore
        have HCm := Lib.hid hcm
        clear hT1 hT2 hrw hlk hlk2 hmore hcm hgb
        obtain ⟨Vc, hVc⟩ : ∃ Vc, cmpL rs ps = Vc := ⟨_, rfl⟩
        rw [hVc] at C3 HCm
        clear hVc
        have hr3 := HRd.out.below (Nat.le_refl _) b3
        have b4 : Below w.heap.size w w3 := bt HB.out b3
        clear b3
        obtain ⟨A2, hA2⟩ : ∃ A2, (if c = K then A else Option.map (fun x => x.add K) A) = A2 := ⟨_, rfl⟩
        rw [hA2] at HT2
        have hsl : ∀ W : World, (Instr.slice 32 (.slice A ps.length c) (some (.int .i64 (K : Int))) none none).run Tryd.prog W = .ok (.slice A2 (ps.length - K) (c - K)) W := fun W => by
          rw [← hA2]
          exact slice_from W A ps.length c K hKn
        clear hA2
        have hq1 : ¬ 9223372036854775807 < U.size + 1 := by omega
        have hq2 : ¬ 9223372036854775807 < U.size + 1 + V.size := by omega
        go_region_held3 (fun w' => Rd w' A ps ∧ Below w.heap.size w w') (first | exact ⟨r6, b6⟩ | exact ⟨hr3, Below.drew b4⟩ | exact ⟨hr3, b4⟩ | exact ⟨by assumption, by assumption⟩) ((first
          | (go_at_call_of 15 (Value.slice A K c); refine (HT1.out _ (by assumption)).mono ?_; rintro e w5 ⟨rfl, rfl⟩)
          | (go_at_call_of 15 (Value.slice A2 (ps.length - K) (c - K)); refine (HT2.out _ (by assumption)).mono ?_; rintro e w5 ⟨rfl, rfl⟩)
          | (go_at_call 16; refine (HLk.out _).mono ?_; rintro e w5 ⟨rfl, b5⟩; have b6 : Below w.heap.size w w5 := (Below.drew b4).trans (b5.mono b4.size); have r6 : Rd w5 A ps := Rd.below (w := w3) hr3 (Nat.le_refl _) (((Below.refl w3.heap.size w3).drew).trans b5))))
        clear hq1 hq2 hsl r6
        have t5 := Lib.hid (Utf8Tabs_below HT.out b6)
        cases pl
        · cases fb
          · go_wp2_with fail
            go_ret
            exact ⟨rfl, b6⟩
          · obtain rfl : gb = true := HMore.out rfl
            go_wp2_with fail
            go_ret
            exact ⟨rfl, b6⟩
        · have hq := HCm.out rfl
          cases fb
          · go_wp2_with fail
            refine (C3.out _ t5.out).mono ?_
            rintro e w6 ⟨rfl, b7⟩
            go_wp2_with fail
            go_ret
            exact ⟨rfl, bt b6 b7⟩
          · obtain rfl : gb = true := HMore.out rfl
            go_wp2_with fail
            refine (C3.out _ t5.out).mono ?_
            rintro e w6 ⟨rfl, b7⟩
            go_wp2_with fail
            go_ret
            exact ⟨rfl, bt b6 b7⟩

set_option maxRecDepth 100000 in
theorem lifted (os : Os) (started : os.Started) (H : Type) (enc : TypeId × Value → H) :
    ReturnsInHanded {} Tryd.checked os 6 .any (fun w args => (Rows.letterStarsSpec.pre enc Tryd.prog Tryd.f6 [] false w args ∧ laidMetH Tryd.prog Rows.letterStarsRow.laid w) ∧ sizedMet enc Tryd.prog Tryd.f6 (OpenSpec.ofChange Rows.letterStarsSpec) false w args) (Rows.letterStarsSpec.post enc Tryd.prog Tryd.f6 false true false false) := by
  refine returnsInHanded_of_change_and (C := Tryd.checked) (X := fun w _ => laidMetH Tryd.prog Rows.letterStarsRow.laid w) (fun _ _ _ hh h => h.of_heap hh) own started (by kernel_rfl) Tryd.func6
    (ChangeSpec.witness_shaped (enc := enc) (C := Tryd.checked) (os := os) (X := fun w _ => laidMetH Tryd.prog Rows.letterStarsRow.laid w) false (World.laidAll Tryd.prog os Rows.letterStarsRow.laid) #[.string ByteArray.empty, .string ByteArray.empty, .int .i64 0] 8 (World.laidAll_os _ _ _)
      (World.shaped_of_ZipB (by kernel_rfl) (by kernel_rfl)) (by kernel_rfl) (by kernel_rfl) (by kernel_rfl)
      (by rw [MakeChecks.laidMetH_plain _ _ _ (by kernel_rfl)]; exact laidMet_laidAll _ (by kernel_rfl) (by kernel_rfl))) ?_
  intro W base args ds gs before hval0 hW _ _ hL _
  have hval : ∀ (j : Nat) t v, Tryd.f6.params[j]? = some t → args[j]? = some v → Value.okWide Tryd.prog W .any base t v := hval0
  have hW' := hW
  obtain ⟨p, q, hA0, hV, rfl, hfz, hnd⟩ := hW
  have hA : DataW.TrodAll enc Tryd.prog W 0 (fun _ => true) true Tryd.f6.params.toList args.toList ds p := hA0
  rw [Tryd.params6] at hA hval
  obtain ⟨v0, vs0, d0, ds0, p0, q0, hargs, rfl, rfl, h0, r0⟩ := trodAll_cons hA
  obtain ⟨v1, vs1, d1, ds1, p1, q1, rfl, rfl, rfl, h1, r1⟩ := trodAll_cons r0
  obtain ⟨v2, vs2, d2, ds2, p2, q2, rfl, rfl, rfl, h2, r2⟩ := trodAll_cons r1
  obtain ⟨rfl, rfl, rfl⟩ := trodAll_nil r2
  obtain rfl : args = #[v0, v1, v2] := by cases args; simp_all
  obtain ⟨rfl, rfl⟩ := trodVars_none hV
  obtain ⟨a0, rfl, rfl, rfl, w0⟩ := open_string Tryd.underlying9 (hval 0 9 v0 rfl rfl) h0
  obtain ⟨a1, rfl, rfl, rfl, w1⟩ := open_string Tryd.underlying9 (hval 1 9 v1 rfl rfl) h1
  obtain ⟨a2, rfl, rfl, rfl, w2⟩ := open_int Tryd.underlying3 (hval 2 3 v2 rfl rfl) h2
  clear hA0 hval0
  rw [MakeChecks.laidMetH_plain _ _ _ (by kernel_rfl)] at hL
  have hT : Lib.Utf8Tabs 0 1 W := tabs_of_laid hL
  refine (walk a0 a1 a2 w0 w1 w2 W  hT).mono fun e W' ⟨he, bel⟩ => ?_
  subst he
  exact ⟨_, rfl, _, _, _, [], _, [], hW', trodAll_mk1 (shut_bool Tryd.underlying4 _), (trodAll_cons_mk (shut_string Tryd.underlying9 w0) (trodAll_cons_mk (shut_string Tryd.underlying9 w1) (trodAll_cons_mk (shut_int Tryd.underlying3 w2) trodAll_mk0))), rfl, bel.frame _, fun h => by cases h⟩

theorem over : Rows.letterStarsRow.holds Tryd.pinned (OpenSpec.ofChange Rows.letterStarsSpec) :=
  OpenClaim.holds_of_wide 6 Tryd.f6 rfl rfl rfl rfl rfl rfl rfl ⟨rfl, rfl, rfl, rfl, rfl⟩ rfl rfl rfl rfl rfl (by kernel_rfl) Tryd.func6 (by kernel_rfl)
    (of_decide_eq_true (by kernel_rfl)) (by unfold Func.isWrapper; first | (rw [if_pos (by decide +kernel)]; kernel_rfl) | (rw [if_neg (by decide +kernel)]; exact ⟨rfl, rfl⟩))
    (fun os started H enc _ => lifted os started H enc)
theorem proved : Rows.LetterStarsCardSaid :=
  Claim7.holds_tied_plain_at .later [] [.data, .pinned] true _ false
    over (fun _ h => by cases h) (by kernel_rfl) (fun _ h => by cases h) letterStars_row_tie rfl ⟨rfl, rfl⟩ (by kernel_rfl) rfl
    (fun f fn hf hfn => by
      obtain rfl : f = 6 := Option.some.inj ((show Tryd.prog.funcNamed "cobweb/cobweblaw01.LetterStars" = some 6 by kernel_rfl).symm.trans hf) |>.symm
      obtain rfl : fn = Tryd.f6 := (Option.some.inj (Tryd.func6.symm.trans hfn)).symm
      exact ⟨by kernel_rfl, fun j t ht => by
        rw [Tryd.params6] at ht
        have hm : t ∈ [9, 9, 3] := by simpa using Array.mem_of_getElem? ht
        have hall : ([9, 9, 3].all fun u => !Tryd.prog.wantsStandIn u) = true := by kernel_rfl
        exact (show Tryd.prog.wantsStandIn t = false by simpa using List.all_eq_true.1 hall t hm)⟩)
    (by kernel_rfl)
end Go.Proofs.YtcmikojlcckabaaDoor.letterStars
