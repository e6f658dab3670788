/- Whatever the two texts, LetterFits answers true and its arguments read behind the call as before; under no condition. -/
import Derived.Test.YtcmikojlcckabaaOpen
import Derived.Test.YtcmikojlcckabaaRefLike
namespace Go.Proofs.Ytcmikojlcckabaa.letterFits
open Go.ChangeShapes Go.WideShapes Go.ChangeAt Go.RowKit
open Go.ChangeMaps (open_string shut_string)
set_option linter.unusedVariables false

set_option maxHeartbeats 4000000 in
set_option maxRecDepth 100000 in
theorem walk (a0 : ByteArray) (a1 : ByteArray) (w0 : a0.size ≤ maxLen) (w1 : a1.size ≤ maxLen) (w : World)  :
    Calls Try.prog 5 #[.string a0, .string a1] w fun e w' => e = .returned (.bool true) ∧ Below w.heap.size w w' := by
  clear w0 w1
  by_cases h0 : 900 < a0.size
  · go_enter Try.func5, Try.ntmps5
    go_wp2_with fail
    refine (awake_any _).mono ?_
    rintro e w1 ⟨rfl, b1⟩
    go_wp2_with fail
    refine (awake_any _).mono ?_
    rintro e w2 ⟨rfl, b2⟩
    go_wp2_with fail
    go_ret
    exact ⟨rfl, bt b1 b2⟩
  · by_cases h1 : 900 < a1.size
    · go_enter Try.func5, Try.ntmps5
      go_wp2_with fail
      refine (awake_any _).mono ?_
      rintro e w1 ⟨rfl, b1⟩
      go_wp2_with fail
      refine (awake_any _).mono ?_
      rintro e w2 ⟨rfl, b2⟩
      go_wp2_with fail
      go_ret
      exact ⟨rfl, bt b1 b2⟩
    · have c1 := fun W => like_any a0 a1 W (by omega) (by omega)
      have c2 := fun W => refRunes_any a0 W (by omega)
      have c3 := fun W => refRunes_any a1 W (by omega)
      have c4 := fun W => refLike_any a0 a1 W (by omega) (by omega)
      have l1 := runes_le a0
      have l2 := runes_le a1
      generalize runes a0.data.toList = rs at *
      generalize runes a1.data.toList = ps at *
      obtain ⟨b, hb⟩ : ∃ b, fitsL rs.reverse ps.reverse = b := ⟨_, rfl⟩
      rw [hb] at c4
      unfold likeR at c1
      rw [hb] at c1
      clear hb
      by_cases h2 : 200 < rs.length
      · rw [if_pos (.inl h2)] at c1
        have C1 := Lib.hid c1; have C2 := Lib.hid c2; have C3 := Lib.hid c3; have C4 := Lib.hid c4
        clear c1 c2 c3 c4
        go_enter Try.func5, Try.ntmps5
        go_wp2_with fail
        refine (awake_any _).mono ?_
        rintro e w1 ⟨rfl, b1⟩
        go_wp2_with fail
        refine (C1.out _).mono ?_
        rintro e w2 ⟨rfl, b2⟩
        go_wp2_with fail
        refine (C2.out _).mono ?_
        rintro e w3 ⟨v, rfl, hrow, b3⟩
        obtain ⟨A, c, rfl, hnc, hrd⟩ := hrow.rd
        clear hrow hrd
        go_wp2_with fail
        go_ret
        exact ⟨rfl, bt (bt b1 b2) b3⟩
      · by_cases h3 : 200 < ps.length
        · rw [if_pos (.inr h3)] at c1
          have C1 := Lib.hid c1; have C2 := Lib.hid c2; have C3 := Lib.hid c3; have C4 := Lib.hid c4
          clear c1 c2 c3 c4
          go_enter Try.func5, Try.ntmps5
          go_wp2_with fail
          refine (awake_any _).mono ?_
          rintro e w1 ⟨rfl, b1⟩
          go_wp2_with fail
          refine (C1.out _).mono ?_
          rintro e w2 ⟨rfl, b2⟩
          go_wp2_with fail
          refine (C2.out _).mono ?_
          rintro e w3 ⟨v, rfl, hrow, b3⟩
          obtain ⟨A, c, rfl, hnc, hrd⟩ := hrow.rd
          clear hrow hrd
          go_wp2_with fail
          refine (C3.out _).mono ?_
          rintro e w4 ⟨v, rfl, hrow, b4⟩
          obtain ⟨A', c', rfl, hnc', hrd⟩ := hrow.rd
          clear hrow hrd
          go_wp2_with fail
          go_ret
          exact ⟨rfl, bt (bt (bt b1 b2) b3) b4⟩
        · rw [if_neg (by omega)] at c1
          have C1 := Lib.hid c1; have C2 := Lib.hid c2; have C3 := Lib.hid c3; have C4 := Lib.hid c4
          clear c1 c2 c3 c4
          go_enter Try.func5, Try.ntmps5
          go_wp2_with fail
          refine (awake_any _).mono ?_
          rintro e w1 ⟨rfl, b1⟩
          go_wp2_with fail
          refine (C1.out _).mono ?_
          rintro e w2 ⟨rfl, b2⟩
          go_wp2_with fail
          refine (C2.out _).mono ?_
          rintro e w3 ⟨v, rfl, hrow, b3⟩
          obtain ⟨A, c, rfl, hnc, hrd⟩ := hrow.rd
          clear hrow hrd
          go_wp2_with fail
          refine (C3.out _).mono ?_
          rintro e w4 ⟨v, rfl, hrow, b4⟩
          obtain ⟨A', c', rfl, hnc', hrd⟩ := hrow.rd
          clear hrow hrd
          go_wp2_with fail
          refine (C4.out _).mono ?_
          rintro e w5 ⟨rfl, b5⟩
          cases b
          · go_wp2_with fail
            go_ret
            exact ⟨rfl, bt (bt (bt (bt b1 b2) b3) b4) b5⟩
          · go_wp2_with fail
            go_ret
            exact ⟨rfl, bt (bt (bt (bt b1 b2) b3) b4) b5⟩

set_option maxRecDepth 100000 in
theorem lifted (os : Os) (started : os.Started) (H : Type) (enc : TypeId × Value → H) :
    ReturnsInHanded {} Try.checked os 5 .any (Rows.letterFitsSpec.pre6 enc Try.prog Try.f5 Rows.letterFitsRow.domain false) (Rows.letterFitsSpec.post enc Try.prog Try.f5 false true false false) := by
  refine returnsInHanded_of_change (C := Try.checked) own started (by kernel_rfl) Try.func5
    (ChangeSpec.witness6 (enc := enc) (C := Try.checked) false ⟨#[], #[.string ByteArray.empty, .string ByteArray.empty], []⟩ 8 (by kernel_rfl) (by kernel_rfl) (by kernel_rfl) (by kernel_rfl)) ?_
  intro W base args ds gs before hval0 hW hcnd _
  have hval : ∀ (j : Nat) t v, Try.f5.params[j]? = some t → args[j]? = some v → Value.okWide Try.prog W .any base t v := hval0
  have hW' := hW
  obtain ⟨p, q, hA0, hV, rfl, hfz, hnd⟩ := hW
  have hA : DataW.TrodAll enc Try.prog W 0 (fun _ => true) true Try.f5.params.toList args.toList ds p := hA0
  rw [Try.params5] at hA hval
  obtain ⟨v0, vs0, d0, ds0, p0, q0, hargs, rfl, rfl, h0, r0⟩ := trodAll_cons hA
  obtain ⟨v1, vs1, d1, ds1, p1, q1, rfl, rfl, rfl, h1, r1⟩ := trodAll_cons r0
  obtain ⟨rfl, rfl, rfl⟩ := trodAll_nil r1
  obtain rfl : args = #[v0, v1] := by cases args; simp_all
  obtain ⟨rfl, rfl⟩ := trodVars_none hV
  obtain ⟨a0, rfl, rfl, rfl, w0⟩ := open_string Try.underlying9 (hval 0 9 v0 rfl rfl) h0
  obtain ⟨a1, rfl, rfl, rfl, w1⟩ := open_string Try.underlying9 (hval 1 9 v1 rfl rfl) h1
  clear hA0 hval0
  refine (walk a0 a1 w0 w1 W ).mono fun e W' ⟨he, bel⟩ => ?_
  subst he
  exact ⟨_, rfl, _, _, _, [], _, [], hW', trodAll_mk1 (shut_bool Try.underlying4 _), (trodAll_cons_mk (shut_string Try.underlying9 w0) (trodAll_cons_mk (shut_string Try.underlying9 w1) trodAll_mk0)), rfl, bel.frame _, fun h => by cases h⟩

theorem over : Rows.letterFitsRow.holds Try.pinned (OpenSpec.ofChange Rows.letterFitsSpec) :=
  OpenClaim.holds_of_wide 5 Try.f5 rfl rfl rfl rfl rfl rfl rfl ⟨rfl, rfl, rfl, rfl, rfl⟩ rfl rfl rfl rfl rfl (by kernel_rfl) Try.func5 (by kernel_rfl)
    (of_decide_eq_true (by kernel_rfl)) (by unfold Func.isWrapper; first | (rw [if_pos (by decide +kernel)]; kernel_rfl) | (rw [if_neg (by decide +kernel)]; exact ⟨rfl, rfl⟩))
    (fun os started H enc _ => lifted os started H enc)
theorem proved : Rows.LetterFitsSaid := over
end Go.Proofs.Ytcmikojlcckabaa.letterFits
