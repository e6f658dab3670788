/- Whatever the three texts, LetterCompares answers true and they read behind the call as before: where utf8's two tables hold what the library's text lays (the card ties that). -/
import Derived.Test.YtcmikojlcckabaaDoorDoor
import Derived.Test.YtcmikojlcckabaaDoorRefCompare
namespace Go.Proofs.YtcmikojlcckabaaDoor.letterCompares
open Go.ChangeShapes Go.WideShapes Go.ChangeAt Go.RowKit
open Go.ChangeMaps (open_string shut_string)
set_option linter.unusedVariables false

set_option maxHeartbeats 4000000 in
set_option maxRecDepth 100000 in
theorem walk (a0 : ByteArray) (a1 : ByteArray) (a2 : ByteArray) (w0 : a0.size ≤ maxLen) (w1 : a1.size ≤ maxLen) (w2 : a2.size ≤ maxLen) (w : World)  (hT : Lib.Utf8Tabs 0 1 w) :
    Calls Tryd.prog 3 #[.string a0, .string a1, .string a2] w fun e w' => e = .returned (.bool true) ∧ Below w.heap.size w w' := by
  clear w0 w1 w2
  by_cases hbig : 1000 < a0.size ∨ 1000 < a1.size ∨ 1000 < a2.size
  · have hsp : 1000 < a0.size ∨ (a0.size ≤ 1000 ∧ 1000 < a1.size) ∨ (a0.size ≤ 1000 ∧ a1.size ≤ 1000 ∧ 1000 < a2.size) := by omega
    clear hbig
    rcases hsp with h | ⟨h, h'⟩ | ⟨h, h', h''⟩
    all_goals
      go_enter Tryd.func3, Tryd.ntmps3
      go_wp2_with fail
      refine (awake_any _).mono ?_
      rintro e w1 ⟨rfl, b1⟩
      go_wp2_with fail
      refine (awake_any _).mono ?_
      rintro e w2 ⟨rfl, b2⟩
      go_wp2_with fail
      go_ret
      exact ⟨rfl, bt b1 b2⟩
  · have s0 : a0.size ≤ 1000 := by omega
    have s1 : a1.size ≤ 1000 := by omega
    have s2 : a2.size ≤ 1000 := by omega
    have c1 := fun W hW => compare_any a0 a1 W (by omega) (by omega) hW
    have c2 := fun W hW => compare_any a1 a2 W (by omega) (by omega) hW
    have c3 := fun W hW => compare_any a0 a2 W (by omega) (by omega) hW
    have c4 := fun W => refCompare_any a0 a1 W (by omega) (by omega)
    have c5 := fun W hW => compare_any a1 a0 W (by omega) (by omega) hW
    have c6 := fun W hW => compare_any a0 a0 W (by omega) (by omega) hW
    have htr := cmpL_trans (runes a0.data.toList) (runes a1.data.toList) (runes a2.data.toList)
    have hr1 := cmpL_range (runes a0.data.toList) (runes a1.data.toList)
    have hr2 := cmpL_range (runes a1.data.toList) (runes a2.data.toList)
    have hr3 := cmpL_range (runes a0.data.toList) (runes a2.data.toList)
    rw [cmpL_neg (runes a0.data.toList) (runes a1.data.toList)] at c5
    rw [cmpL_self] at c6
    generalize cmpL (runes a0.data.toList) (runes a1.data.toList) = X at *
    generalize cmpL (runes a1.data.toList) (runes a2.data.toList) = Y at *
    generalize cmpL (runes a0.data.toList) (runes a2.data.toList) = Z at *
    have C1 := Lib.hid c1; have C2 := Lib.hid c2; have C3 := Lib.hid c3; have C4 := Lib.hid c4; have C5 := Lib.hid c5; have C6 := Lib.hid c6
    have HT := Lib.hid hT
    clear c1 c2 c3 c4 c5 c6 hT hbig
    have hsp : (X ≤ 0 ∧ Y ≤ 0 ∧ Z ≤ 0) ∨ (0 < X) ∨ (X ≤ 0 ∧ 0 < Y) := by omega
    have x0 : -1 ≤ X := by omega
    have x1 : X ≤ 1 := by omega
    clear htr hr1 hr2 hr3
    rcases hsp with ⟨q1, q2, q3⟩ | q1 | ⟨q1, q2⟩
    all_goals
      go_enter Tryd.func3, Tryd.ntmps3
      go_wp2_with fail
      refine (awake_any _).mono ?_
      rintro e w1 ⟨rfl, b1⟩
      have t1 := Lib.hid (Utf8Tabs_below HT.out b1)
      go_wp2_with fail
      refine (C1.out _ t1.out).mono ?_
      rintro e w2 ⟨rfl, b2⟩
      have t2 := Lib.hid (Utf8Tabs_below t1.out b2)
      go_wp2_with fail
      refine (C2.out _ t2.out).mono ?_
      rintro e w3 ⟨rfl, b3⟩
      have t3 := Lib.hid (Utf8Tabs_below t2.out b3)
      go_wp2_with fail
      refine (C3.out _ t3.out).mono ?_
      rintro e w4 ⟨rfl, b4⟩
      have t4 := Lib.hid (Utf8Tabs_below t3.out b4)
      go_wp2_with fail
      refine (C4.out _).mono ?_
      rintro e w5 ⟨rfl, b5⟩
      have t5 := Lib.hid (Utf8Tabs_below t4.out b5)
      go_wp2_with fail
      refine (C5.out _ t5.out).mono ?_
      rintro e w6 ⟨rfl, b6⟩
      have t6 := Lib.hid (Utf8Tabs_below t5.out b6)
      go_wp2_with fail
      refine (C6.out _ t6.out).mono ?_
      rintro e w7 ⟨rfl, b7⟩
      go_wp2_with fail
      go_ret
      exact ⟨by first | rfl | simp, bt (bt (bt (bt (bt (bt b1 b2) b3) b4) b5) b6) b7⟩

set_option maxRecDepth 100000 in
theorem lifted (os : Os) (started : os.Started) (H : Type) (enc : TypeId × Value → H) :
    ReturnsInHanded {} Tryd.checked os 3 .any (fun w args => (Rows.letterComparesSpec.pre enc Tryd.prog Tryd.f3 [] false w args ∧ laidMetH Tryd.prog Rows.letterComparesRow.laid w) ∧ sizedMet enc Tryd.prog Tryd.f3 (OpenSpec.ofChange Rows.letterComparesSpec) false w args) (Rows.letterComparesSpec.post enc Tryd.prog Tryd.f3 false true false false) := by
  refine returnsInHanded_of_change_and (C := Tryd.checked) (X := fun w _ => laidMetH Tryd.prog Rows.letterComparesRow.laid w) (fun _ _ _ hh h => h.of_heap hh) own started (by kernel_rfl) Tryd.func3
    (ChangeSpec.witness_shaped (enc := enc) (C := Tryd.checked) (os := os) (X := fun w _ => laidMetH Tryd.prog Rows.letterComparesRow.laid w) false (World.laidAll Tryd.prog os Rows.letterComparesRow.laid) #[.string ByteArray.empty, .string ByteArray.empty, .string ByteArray.empty] 8 (World.laidAll_os _ _ _)
      (World.shaped_of_ZipB (by kernel_rfl) (by kernel_rfl)) (by kernel_rfl) (by kernel_rfl) (by kernel_rfl)
      (by rw [MakeChecks.laidMetH_plain _ _ _ (by kernel_rfl)]; exact laidMet_laidAll _ (by kernel_rfl) (by kernel_rfl))) ?_
  intro W base args ds gs before hval0 hW _ _ hL _
  have hval : ∀ (j : Nat) t v, Tryd.f3.params[j]? = some t → args[j]? = some v → Value.okWide Tryd.prog W .any base t v := hval0
  have hW' := hW
  obtain ⟨p, q, hA0, hV, rfl, hfz, hnd⟩ := hW
  have hA : DataW.TrodAll enc Tryd.prog W 0 (fun _ => true) true Tryd.f3.params.toList args.toList ds p := hA0
  rw [Tryd.params3] at hA hval
  obtain ⟨v0, vs0, d0, ds0, p0, q0, hargs, rfl, rfl, h0, r0⟩ := trodAll_cons hA
  obtain ⟨v1, vs1, d1, ds1, p1, q1, rfl, rfl, rfl, h1, r1⟩ := trodAll_cons r0
  obtain ⟨v2, vs2, d2, ds2, p2, q2, rfl, rfl, rfl, h2, r2⟩ := trodAll_cons r1
  obtain ⟨rfl, rfl, rfl⟩ := trodAll_nil r2
  obtain rfl : args = #[v0, v1, v2] := by cases args; simp_all
  obtain ⟨rfl, rfl⟩ := trodVars_none hV
  obtain ⟨a0, rfl, rfl, rfl, w0⟩ := open_string Tryd.underlying9 (hval 0 9 v0 rfl rfl) h0
  obtain ⟨a1, rfl, rfl, rfl, w1⟩ := open_string Tryd.underlying9 (hval 1 9 v1 rfl rfl) h1
  obtain ⟨a2, rfl, rfl, rfl, w2⟩ := open_string Tryd.underlying9 (hval 2 9 v2 rfl rfl) h2
  clear hA0 hval0
  rw [MakeChecks.laidMetH_plain _ _ _ (by kernel_rfl)] at hL
  have hT : Lib.Utf8Tabs 0 1 W := tabs_of_laid hL
  refine (walk a0 a1 a2 w0 w1 w2 W  hT).mono fun e W' ⟨he, bel⟩ => ?_
  subst he
  exact ⟨_, rfl, _, _, _, [], _, [], hW', trodAll_mk1 (shut_bool Tryd.underlying4 _), (trodAll_cons_mk (shut_string Tryd.underlying9 w0) (trodAll_cons_mk (shut_string Tryd.underlying9 w1) (trodAll_cons_mk (shut_string Tryd.underlying9 w2) trodAll_mk0))), rfl, bel.frame _, fun h => by cases h⟩

theorem over : Rows.letterComparesRow.holds Tryd.pinned (OpenSpec.ofChange Rows.letterComparesSpec) :=
  OpenClaim.holds_of_wide 3 Tryd.f3 rfl rfl rfl rfl rfl rfl rfl ⟨rfl, rfl, rfl, rfl, rfl⟩ rfl rfl rfl rfl rfl (by kernel_rfl) Tryd.func3 (by kernel_rfl)
    (of_decide_eq_true (by kernel_rfl)) (by unfold Func.isWrapper; first | (rw [if_pos (by decide +kernel)]; kernel_rfl) | (rw [if_neg (by decide +kernel)]; exact ⟨rfl, rfl⟩))
    (fun os started H enc _ => lifted os started H enc)
theorem proved : Rows.LetterComparesCardSaid :=
  Claim7.holds_tied_plain_at .later [] [.data, .pinned] true _ false
    over (fun _ h => by cases h) (by kernel_rfl) (fun _ h => by cases h) letterCompares_row_tie rfl ⟨rfl, rfl⟩ (by kernel_rfl) rfl
    (fun f fn hf hfn => by
      obtain rfl : f = 3 := Option.some.inj ((show Tryd.prog.funcNamed "cobweb/cobweblaw01.LetterCompares" = some 3 by kernel_rfl).symm.trans hf) |>.symm
      obtain rfl : fn = Tryd.f3 := (Option.some.inj (Tryd.func3.symm.trans hfn)).symm
      exact ⟨by kernel_rfl, fun j t ht => by
        rw [Tryd.params3] at ht
        have hm : t ∈ [9, 9, 9] := by simpa using Array.mem_of_getElem? ht
        have hall : ([9, 9, 9].all fun u => !Tryd.prog.wantsStandIn u) = true := by kernel_rfl
        exact (show Tryd.prog.wantsStandIn t = false by simpa using List.all_eq_true.1 hall t hm)⟩)
    (by kernel_rfl)
end Go.Proofs.YtcmikojlcckabaaDoor.letterCompares
