/- Whatever the text and the two numbers, LetterCuts answers true and its arguments read behind the call as before; under no condition. -/
import Derived.Test.YtcmikojlcckabaaPost
import Derived.Test.YtcmikojlcckabaaCutMath
namespace Go.Proofs.Ytcmikojlcckabaa.letterCuts
open Go.ChangeShapes Go.WideShapes Go.ChangeAt Go.RowKit
open Go.ChangeMaps (open_string shut_string)
set_option linter.unusedVariables false

theorem own : ownKnob Try.prog.godebug = none := by kernel_rfl

set_option maxHeartbeats 2000000 in
set_option maxRecDepth 100000 in
theorem walk (a0 : ByteArray) (a1 : Int) (a2 : Int) (w0 : a0.size ≤ maxLen) (w1 : (Lit.int .i64 a1).wf = true) (w2 : (Lit.int .i64 a2).wf = true) (w : World) :
    Calls Try.prog 6 #[.string a0, .int .i64 a1, .int .i64 a2] w fun e w' => e = .returned (.bool true) ∧ Below w.heap.size w w' := by
  have hb1 := bounds_i64 w1
  have hb2 := bounds_i64 w2
  obtain ⟨hn0, hn1⟩ := hb1
  obtain ⟨hm0, hm1⟩ := hb2
  clear w0 w1 w2
  by_cases hbig : 2000 < a0.size
  · go_enter Try.func6, Try.ntmps6
    go_wp2_with fail
    refine (awake_any _).mono ?_
    rintro e w1 ⟨rfl, b1⟩
    go_wp2_with fail
    refine (awake_any _).mono ?_
    rintro e w2 ⟨rfl, b2⟩
    go_wp2_with fail
    go_ret
    exact ⟨rfl, bt b1 b2⟩
  · have hs : a0.size ≤ 1000000 := by omega
    have hR := runes_le a0
    have hKs := cut_size a0 a1.toNat
    have hKl := cut_le a0 a1.toNat
    have hsame := cut_same a0 a1.toNat
    have hcnt := cut_count a0 a1.toNat
    have htail := tail_count a0 a1.toNat
    have c1 := fun W => cut_any a0 a1 W hs hn0 hn1
    have c2 := fun W => count_any a0 W hs
    have c5 := fun W => cut_any (a0.extract 0 (cutLen a1.toNat a0.data.toList)) a2 W (by omega) hm0 hm1
    have c6 : ∀ W, Calls Try.prog 14 #[.string a0, .int .i64 (min a1 a2)] W fun e w' => e = .returned (.string ((a0.extract 0 (cutLen a1.toNat a0.data.toList)).extract 0 (cutLen a2.toNat (a0.extract 0 (cutLen a1.toNat a0.data.toList)).data.toList))) ∧ Below W.heap.size W w' := fun W => by
      rw [cut_again a0 a1.toNat a2.toNat (min a1 a2).toNat (by omega)]
      exact cut_any a0 _ W hs (by omega) (by omega)
    have c3 := fun W => count_any (a0.extract 0 (cutLen a1.toNat a0.data.toList)) W (by omega)
    have c4 := fun W => count_any (a0.extract (a0.extract 0 (cutLen a1.toNat a0.data.toList)).size a0.size) W (by rw [← size_list, extract_tail, List.length_drop, size_list]; omega)
    rw [hcnt] at c3
    rw [htail] at c4
    obtain ⟨R, hRe⟩ : ∃ R, (runes a0.data.toList).length = R := ⟨_, rfl⟩
    rw [hRe] at hR c2 c3 c4
    clear hRe hcnt htail
    generalize (a0.extract 0 (cutLen a1.toNat a0.data.toList)).extract 0 (cutLen a2.toNat (a0.extract 0 (cutLen a1.toNat a0.data.toList)).data.toList) = x at *
    generalize a0.extract 0 (cutLen a1.toNat a0.data.toList) = a at *
    have has : a.size ≤ a0.size := by omega
    clear hKs hKl
    obtain ⟨R1, hR1⟩ : ∃ R1, min a1.toNat R = R1 := ⟨_, rfl⟩
    obtain ⟨R2, hR2⟩ : ∃ R2, R - a1.toNat = R2 := ⟨_, rfl⟩
    rw [hR1] at c3
    rw [hR2] at c4
    have C1 := Lib.hid c1; have C2 := Lib.hid c2; have C3 := Lib.hid c3; have C4 := Lib.hid c4; have C5 := Lib.hid c5; have C6 := Lib.hid c6
    clear c1 c2 c3 c4 c5 c6
    have e1 : ((R1 : Int) == max (min a1 (R : Int)) 0) = true := by rw [beq_iff_eq]; omega
    have e2 : ((R2 : Int) == (R : Int) - max (min a1 (R : Int)) 0) = true := by rw [beq_iff_eq]; omega
    clear hR1 hR2
    go_enter Try.func6, Try.ntmps6
    go_wp2_with fail
    refine (awake_any _).mono ?_
    rintro e w1 ⟨rfl, b1⟩
    go_wp2_with fail
    refine (C1.out _).mono ?_
    rintro e w2 ⟨rfl, b2⟩
    go_wp2_with fail
    refine (C2.out _).mono ?_
    rintro e w3 ⟨rfl, b3⟩
    go_wp2_with fail
    refine (C3.out _).mono ?_
    rintro e w4 ⟨rfl, b4⟩
    go_wp2_with fail
    refine (C4.out _).mono ?_
    rintro e w5 ⟨rfl, b5⟩
    go_wp2_with fail
    refine (C5.out _).mono ?_
    rintro e w6 ⟨rfl, b6⟩
    go_wp2_with fail
    refine (C6.out _).mono ?_
    rintro e w7 ⟨rfl, b7⟩
    go_wp2_with fail
    go_ret
    exact ⟨rfl, bt (bt (bt (bt (bt (bt b1 b2) b3) b4) b5) b6) b7⟩

/-! ### THE ROW's STEP: WRITTEN OUT: LEAVE IT -/
set_option maxRecDepth 100000 in
theorem lifted (os : Os) (started : os.Started) (H : Type) (enc : TypeId × Value → H) :
    ReturnsInHanded {} Try.checked os 6 .any (Rows.letterCutsSpec.pre6 enc Try.prog Try.f6 Rows.letterCutsRow.domain false) (Rows.letterCutsSpec.post enc Try.prog Try.f6 false true false false) := by
  refine returnsInHanded_of_change (C := Try.checked) own started (by kernel_rfl) Try.func6
    (ChangeSpec.witness6 (enc := enc) (C := Try.checked) false ⟨#[], #[.string ByteArray.empty, .int .i64 0, .int .i64 0], []⟩ 8 (by kernel_rfl) (by kernel_rfl) (by kernel_rfl) (by kernel_rfl)) ?_
  intro W base args ds gs before hval0 hW hcnd _
  have hval : ∀ (j : Nat) t v, Try.f6.params[j]? = some t → args[j]? = some v → Value.okWide Try.prog W .any base t v := hval0
  have hW' := hW
  obtain ⟨p, q, hA0, hV, rfl, hfz, hnd⟩ := hW
  have hA : DataW.TrodAll enc Try.prog W 0 (fun _ => true) true Try.f6.params.toList args.toList ds p := hA0
  rw [Try.params6] at hA hval
  obtain ⟨v0, vs0, d0, ds0, p0, q0, hargs, rfl, rfl, h0, r0⟩ := trodAll_cons hA
  obtain ⟨v1, vs1, d1, ds1, p1, q1, rfl, rfl, rfl, h1, r1⟩ := trodAll_cons r0
  obtain ⟨v2, vs2, d2, ds2, p2, q2, rfl, rfl, rfl, h2, r2⟩ := trodAll_cons r1
  obtain ⟨rfl, rfl, rfl⟩ := trodAll_nil r2
  obtain rfl : args = #[v0, v1, v2] := by cases args; simp_all
  obtain ⟨rfl, rfl⟩ := trodVars_none hV
  obtain ⟨a0, rfl, rfl, rfl, w0⟩ := open_string Try.underlying9 (hval 0 9 v0 rfl rfl) h0
  obtain ⟨a1, rfl, rfl, rfl, w1⟩ := open_int Try.underlying3 (hval 1 3 v1 rfl rfl) h1
  obtain ⟨a2, rfl, rfl, rfl, w2⟩ := open_int Try.underlying3 (hval 2 3 v2 rfl rfl) h2
  clear hA0 hval0
  simp only [List.append_nil] at hW'
  refine (walk a0 a1 a2 w0 w1 w2 W).mono fun e W' ⟨he, hg⟩ => ?_
  subst he
  exact ⟨_, rfl, post_of_below (pa := []) (pv := []) hW' (fun _ _ _ => (trodAll_cons_mk (shut_bool Try.underlying4 _) trodAll_mk0)) (fun sp _ => (trodAll_cons_mk (shut_string Try.underlying9 w0) (trodAll_cons_mk (shut_int Try.underlying3 w1) (trodAll_cons_mk (shut_int Try.underlying3 w2) trodAll_mk0)))) (fun _ _ => rfl) rfl
    hg (ok_one (by kernel_rfl) rfl (okWide_bool_mk Try.underlying4 _))⟩

theorem over : Rows.letterCutsRow.holds Try.pinned (OpenSpec.ofChange Rows.letterCutsSpec) :=
  OpenClaim.holds_of_wide 6 Try.f6 rfl rfl rfl rfl rfl rfl rfl ⟨rfl, rfl, rfl, rfl, rfl⟩ rfl rfl rfl rfl rfl (by kernel_rfl) Try.func6 (by kernel_rfl)
    (of_decide_eq_true (by kernel_rfl)) (by unfold Func.isWrapper; first | (rw [if_pos (by decide +kernel)]; kernel_rfl) | (rw [if_neg (by decide +kernel)]; exact ⟨rfl, rfl⟩))
    (fun os started H enc _ => lifted os started H enc)

/-- ████ THE STATEMENT ████ -/
theorem proved : Rows.LetterCutsSaid :=
  over
end Go.Proofs.Ytcmikojlcckabaa.letterCuts
