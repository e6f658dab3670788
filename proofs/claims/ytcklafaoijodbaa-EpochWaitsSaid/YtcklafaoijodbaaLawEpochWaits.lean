/- As long as a session stays in an epoch, the global one rises by one at most (P6.2, P6.3). -/
import Derived.Test.YtcklafaoijodbaaNum
import Derived.Test.YtcklafaoijodbaaEpIs
import Derived.Test.YtcklafaoijodbaaEpMath
import Derived.Test.YtcklafaoijodbaaPass
namespace Go.Proofs.Ytcklafaoijodbaa.epochWaits
open Go.ChangeShapes Go.WideShapes Go.ChangeAt Go.RowKit
open Go.ChangeMaps (open_string shut_string)
set_option linter.unusedVariables false

set_option maxHeartbeats 40000000 in
set_option maxRecDepth 100000 in
theorem walk (a0 : Int) (a1 : Int) (w0 : (Lit.int .i64 a0).wf = true) (w1 : (Lit.int .i64 a1).wf = true) (w : World)  :
    Calls Try.prog 4 #[.int .i64 a0, .int .i64 a1] w fun e w' => e = .returned (.bool true) ∧ Below w.heap.size w w' := by
  have he0 := wf_i64 w0
  have he1 := wf_i64 w1
  obtain ⟨C⟩ := epSpec_is
  obtain ⟨f, hf, hf1⟩ := idx_inE a0 1000000 (by decide) (by decide)
  obtain ⟨k, hk, hk1⟩ := idx_inE a1 50 (by decide) (by decide)
  have hfl : f < 1000000 := by omega
  have hkl : k < 50 := by omega
  have I0 : I64 0 := ⟨by decide, by decide⟩
  have I1 : I64 1 := ⟨by decide, by decide⟩
  clear w0 w1 hf1 hk1
  go_enter Try.func4, Try.ntmps4
  go_wp2_with fail
  refine (awake_any C _).mono ?_
  rintro e x1 ⟨rfl, b1⟩
  have HN : Calls Try.prog 7 #[.int .i64 3, .int .i64 (f : Int)] x1 _ := C.new_ 3 (f : Int) x1 (by decide) (by decide) (by omega) (by omega)
  have HN1 := Lib.hid HN
  clear HN
  go_wp2_with fail
  refine HN1.out.mono ?_
  rintro e x2 ⟨N, S0, rfl, ha, b2⟩
  have HM0 : EpM C w x1.heap.size N x2 (f : Int) [-1, -1, -1] S0 := ⟨ha, GoodT.start (n := 3) (by omega) (by omega) (by decide), fun k hk => Nat.le_trans b1.size (C.foot ha k hk).1, b1.trans (b2.mono b1.size)⟩
  have HM0 := Lib.hid HM0
  clear ha b2 HN1
  go_wp2_with fail
  go_loopw [9] (fun i wr => ∃ (j : Nat) (S : Nat → Prop), j ≤ k ∧ i = .int .i64 (j : Nat) ∧ EpM C w x1.heap.size N wr ((f : Int) + (j : Int)) [-1, -1, -1] S) (fun i _ => k - (intOf i).toNat)
  case atStart => exact ⟨0, S0, Nat.zero_le _, rfl, by simpa using HM0.out⟩
  case round =>
    clear HM0
    obtain ⟨j, S, hj, rfl, hM⟩ := hrel
    have M0 := Lib.hid hM
    clear hM
    by_cases hjk : j < k
    · have hjk2 : (j : Int) < (k : Int) := by omega
      have w1 : IntKind.i64.wrap ((f : Int) + (j : Int)) = (f : Int) + (j : Int) := IntWalk.i64_in _ (by omega)
      have w2 : IntKind.i64.wrap ((f : Int) + (j : Int) + 1) = (f : Int) + (j : Int) + 1 := IntWalk.i64_in _ (by omega)
      have g1 := M0.out.good.adv
      have t1 := C.advance_ M0.out.a M0.out.good
      rw [adv3 _ (by omega)] at t1 g1
      dsimp only at t1 g1
      have G1 := Lib.hid g1
      have T1 := Lib.hid t1
      clear t1 g1
      go_wp2_with fail
      refine T1.out.mono ?_
      rintro e w1 ⟨S1, rfl, ha, m⟩
      have M1 := Lib.hid (M0.out.move ha m G1.out)
      clear ha m
      go_wp2_with fail
      go_roundw
      case rel => exact ⟨j + 1, S1, by omega, by go_num, by rw [show (f : Int) + ((j + 1 : Nat) : Int) = (f : Int) + (j : Int) + 1 from by omega]; exact M1.out⟩
      case measure => simp [intOf]; omega
    · obtain rfl : j = k := by omega
      obtain ⟨g, hg⟩ : ∃ g : Int, (f : Int) + (j : Int) = g := ⟨_, rfl⟩
      rw [hg] at M0
      have hg0 : 0 ≤ g := by omega
      have hg1 : g < 1000100 := by omega
      have w1 : IntKind.i64.wrap ((f : Int) + (j : Int)) = g := by rw [IntWalk.i64_in _ (by omega)]; exact hg
      have w2 : IntKind.i64.wrap (g + 1) = g + 1 := IntWalk.i64_in _ (by omega)
      have w3 : IntKind.i64.wrap (g + 2) = g + 2 := IntWalk.i64_in _ (by omega)
      clear hg
      have g1 := M0.out.good.enter 1
      have t1 := C.enter_ 1 M0.out.a M0.out.good I1
      rw [ent1] at t1 g1
      dsimp only at t1 g1
      have G1 := Lib.hid g1
      have T1 := Lib.hid t1
      clear t1 g1
      go_wp2_with fail
      refine T1.out.mono ?_
      rintro e w1 ⟨S1, rfl, ha, m⟩
      have M1 := Lib.hid (M0.out.move ha m G1.out)
      clear ha m
      have g2 := M1.out.good.adv
      have t2 := C.advance_ M1.out.a M1.out.good
      rw [adv1 _ (by omega)] at t2 g2
      dsimp only at t2 g2
      have G2 := Lib.hid g2
      have T2 := Lib.hid t2
      clear t2 g2
      go_wp2_with fail
      refine T2.out.mono ?_
      rintro e w2 ⟨S2, rfl, ha, m⟩
      have M2 := Lib.hid (M1.out.move ha m G2.out)
      clear ha m
      go_wp2_with fail
      go_loopw [16] (fun i wr => ∃ (q : Nat) (S : Nat → Prop), q ≤ j ∧ i = .int .i64 (q : Nat) ∧ EpM C w x1.heap.size N wr (g + 1) [-1, g, -1] S) (fun i _ => j - (intOf i).toNat)
      case atStart => exact ⟨0, S2, Nat.zero_le _, rfl, M2.out⟩
      case round =>
        clear M0 M1 M2
        obtain ⟨q, S, hq, rfl, hM⟩ := hrel
        have M0 := Lib.hid hM
        clear hM
        by_cases hqj : q < j
        · have hqj2 : (q : Int) < (j : Int) := by omega
          have g1 := M0.out.good.enter 0
          have t1 := C.enter_ 0 M0.out.a M0.out.good I0
          rw [ent0] at t1 g1
          dsimp only at t1 g1
          have G1 := Lib.hid g1
          have T1 := Lib.hid t1
          clear t1 g1
          go_wp2_with fail
          refine T1.out.mono ?_
          rintro e w1 ⟨S1, rfl, ha, m⟩
          have M1 := Lib.hid (M0.out.move ha m G1.out)
          clear ha m
          have g2 := M1.out.good.adv
          have t2 := C.advance_ M1.out.a M1.out.good
          rw [adv2 _ hg0 (by omega)] at t2 g2
          dsimp only at t2 g2
          have G2 := Lib.hid g2
          have T2 := Lib.hid t2
          clear t2 g2
          go_wp2_with fail
          refine T2.out.mono ?_
          rintro e w2 ⟨S2, rfl, ha, m⟩
          have M2 := Lib.hid (M1.out.move ha m G2.out)
          clear ha m
          go_wp2_with fail
          refine (C.global_ M2.out.a M2.out.good).mono ?_
          rintro e w8 ⟨rfl, b8⟩
          have M3 := Lib.hid (M2.out.below b8)
          have hl := C.least_ M3.out.a M3.out.good
          rw [least2 g hg0] at hl
          have HL := Lib.hid hl
          clear hl b8
          go_wp2_with fail
          refine HL.out.mono ?_
          rintro e w9 ⟨rfl, b9⟩
          have M4 := Lib.hid (M3.out.below b9)
          clear b9
          have g5 := M4.out.good.leave 0 false
          have t5 := C.leave_ 0 M4.out.a M4.out.good I0
          rw [lea0 _ hg0] at t5 g5
          dsimp only at t5 g5
          have G5 := Lib.hid g5
          have T5 := Lib.hid t5
          clear t5 g5
          go_wp2_with fail
          refine T5.out.mono ?_
          rintro e w5 ⟨S5, rfl, ha, m⟩
          have M5 := Lib.hid (M4.out.move ha m G5.out)
          clear ha m
          go_wp2_with fail
          go_roundw
          case rel => exact ⟨q + 1, S5, by omega, by go_num, M5.out⟩
          case measure => simp [intOf]; omega
        · obtain rfl : q = j := by omega
          have g1 := M0.out.good.leave 1 false
          have t1 := C.leave_ 1 M0.out.a M0.out.good I1
          rw [lea1 _ hg0] at t1 g1
          dsimp only at t1 g1
          have G1 := Lib.hid g1
          have T1 := Lib.hid t1
          clear t1 g1
          go_wp2_with fail
          refine T1.out.mono ?_
          rintro e w1 ⟨S1, rfl, ha, m⟩
          have M1 := Lib.hid (M0.out.move ha m G1.out)
          clear ha m
          have hl := C.least_ M1.out.a M1.out.good
          rw [least3] at hl
          have HL := Lib.hid hl
          clear hl
          go_wp2_with fail
          refine HL.out.mono ?_
          rintro e w9 ⟨rfl, b9⟩
          have M2 := Lib.hid (M1.out.below b9)
          clear b9
          have g3 := M2.out.good.adv
          have t3 := C.advance_ M2.out.a M2.out.good
          rw [adv3 _ (by omega)] at t3 g3
          dsimp only at t3 g3
          have G3 := Lib.hid g3
          have T3 := Lib.hid t3
          clear t3 g3
          go_wp2_with fail
          refine T3.out.mono ?_
          rintro e w3 ⟨S3, rfl, ha, m⟩
          have M3 := Lib.hid (M2.out.move ha m G3.out)
          clear ha m
          go_wp2_with fail
          go_ret
          refine ⟨?_, M3.out.bel⟩
          rw [show (g + 1 + 1 == g + 2) = true from by rw [beq_iff_eq]; omega]
          rfl

set_option maxRecDepth 100000 in
theorem lifted (os : Os) (started : os.Started) (H : Type) (enc : TypeId × Value → H) :
    ReturnsInHanded {} Try.checked os 4 .any (Rows.epochWaitsSpec.pre6 enc Try.prog Try.f4 Rows.epochWaitsRow.domain false) (Rows.epochWaitsSpec.post enc Try.prog Try.f4 false true false false) := by
  refine returnsInHanded_of_change (C := Try.checked) own started (by kernel_rfl) Try.func4
    (ChangeSpec.witness6 (enc := enc) (C := Try.checked) false ⟨#[], #[.int .i64 0, .int .i64 0], []⟩ 8 (by kernel_rfl) (by kernel_rfl) (by kernel_rfl) (by kernel_rfl)) ?_
  intro W base args ds gs before hval0 hW hcnd _
  have hval : ∀ (j : Nat) t v, Try.f4.params[j]? = some t → args[j]? = some v → Value.okWide Try.prog W .any base t v := hval0
  have hW' := hW
  obtain ⟨p, q, hA0, hV, rfl, hfz, hnd⟩ := hW
  have hA : DataW.TrodAll enc Try.prog W 0 (fun _ => true) true Try.f4.params.toList args.toList ds p := hA0
  rw [Try.params4] at hA hval
  obtain ⟨v0, vs0, d0, ds0, p0, q0, hargs, rfl, rfl, h0, r0⟩ := trodAll_cons hA
  obtain ⟨v1, vs1, d1, ds1, p1, q1, rfl, rfl, rfl, h1, r1⟩ := trodAll_cons r0
  obtain ⟨rfl, rfl, rfl⟩ := trodAll_nil r1
  obtain rfl : args = #[v0, v1] := by cases args; simp_all
  obtain ⟨rfl, rfl⟩ := trodVars_none hV
  obtain ⟨a0, rfl, rfl, rfl, w0⟩ := open_int Try.underlying3 (hval 0 3 v0 rfl rfl) h0
  obtain ⟨a1, rfl, rfl, rfl, w1⟩ := open_int Try.underlying3 (hval 1 3 v1 rfl rfl) h1
  clear hA0 hval0
  refine (walk a0 a1 w0 w1 W ).mono fun e W' ⟨he, bel⟩ => ?_
  subst he
  exact ⟨_, rfl, _, _, _, [], _, [], hW', trodAll_mk1 (shut_bool Try.underlying4 _), (trodAll_cons_mk (shut_int Try.underlying3 w0) (trodAll_cons_mk (shut_int Try.underlying3 w1) trodAll_mk0)), rfl, bel.frame _, fun h => by cases h⟩

theorem over : Rows.epochWaitsRow.holds Try.pinned (OpenSpec.ofChange Rows.epochWaitsSpec) :=
  OpenClaim.holds_of_wide 4 Try.f4 rfl rfl rfl rfl rfl rfl rfl ⟨rfl, rfl, rfl, rfl, rfl⟩ rfl rfl rfl rfl rfl (by kernel_rfl) Try.func4 (by kernel_rfl)
    (of_decide_eq_true (by kernel_rfl)) (by unfold Func.isWrapper; first | (rw [if_pos (by decide +kernel)]; kernel_rfl) | (rw [if_neg (by decide +kernel)]; exact ⟨rfl, rfl⟩))
    (fun os started H enc _ => lifted os started H enc)
theorem proved : Rows.EpochWaitsSaid := over
end Go.Proofs.Ytcklafaoijodbaa.epochWaits
