/- The order of values is the document's, and is an order. -/
import Derived.Test.YtkimibppfniejaaDoorDoorV
import Derived.Test.YtkimibppfniejaaDoorPost
import Derived.Test.YtkimibppfniejaaDoorOpenW
import Derived.Test.YtkimibppfniejaaDoorValOrd
namespace Go.Proofs.YtkimibppfniejaaDoor.valueCompares
open Go.ChangeShapes Go.WideShapes Go.ChangeAt Go.RowKit
open Go.ChangeMaps (open_string shut_string)
set_option linter.unusedVariables false

set_option maxHeartbeats 4000000 in
set_option maxRecDepth 100000 in
theorem walk (k0 n0 : Int) (s0 : ByteArray) (k1 n1 : Int) (s1 : ByteArray) (k2 n2 : Int) (s2 : ByteArray) (w0 : ValIn k0 n0 s0) (w1 : ValIn k1 n1 s1) (w2 : ValIn k2 n2 s2) (w : World)  (hT : Std w) :
    Calls Tryd.prog 4 #[valV k0 n0 s0, valV k1 n1 s1, valV k2 n2 s2] w fun e w' => e = .returned (.bool true) ∧ Below w.heap.size w w' := by
  have HAw := Lib.hid (awake_any)
  obtain ⟨W0, hW0, hbx0, hbx1, hbx2, hb0, hsz0⟩ := three_boxes w k0 n0 s0 k1 n1 s1 k2 n2 s2
  have HB0 := Lib.hid hbx0; have HB1 := Lib.hid hbx1; have HB2 := Lib.hid hbx2
  clear hbx0 hbx1 hbx2
  clear w0 w1 w2
  unfold valV
  subst hW0
  by_cases hbig : 1000 < s0.size ∨ 1000 < s1.size ∨ 1000 < s2.size
  · have hsp : 1000 < s0.size ∨ (s0.size ≤ 1000 ∧ 1000 < s1.size) ∨ (s0.size ≤ 1000 ∧ s1.size ≤ 1000 ∧ 1000 < s2.size) := by omega
    clear hbig
    rcases hsp with h | ⟨h, h'⟩ | ⟨h, h', h''⟩
    all_goals
      go_enter Tryd.func4, Tryd.ntmps4
      go_wp2_with fail
      refine (HAw.out _ (hT.below hb0)).mono ?_
      rintro e x1 ⟨rfl, b1⟩
      have B1 := btV hb0 b1
      have S1 : w.heap.size + 3 ≤ x1.heap.size := by have := b1.size; rw [hsz0] at this; exact this
      have a0 := HB0.out.below (by rw [hsz0]; omega) b1; have a1 := HB1.out.below (by rw [hsz0]; omega) b1; have a2 := HB2.out.below (by rw [hsz0]; omega) b1
      have c0 := a0.c0; have c1 := a0.c1; have c2 := a0.c2; have c3 := a1.c0; have c4 := a1.c1; have c5 := a1.c2; have c6 := a2.c0; have c7 := a2.c1; have c8 := a2.c2
      go_wp2_with fail
      refine (HAw.out _ (hT.below B1)).mono ?_
      rintro e x2 ⟨rfl, b2⟩
      go_wp2_with fail
      go_ret
      exact ⟨rfl, btV B1 b2⟩
  · have z0 : s0.size ≤ 1000 := by omega
    have z1 : s1.size ≤ 1000 := by omega
    have z2 : s2.size ≤ 1000 := by omega
    have c1 := fun W => valCompare_any k0 n0 s0 k1 n1 s1 W
    have c2 := fun W => valCompare_any k1 n1 s1 k2 n2 s2 W
    have c3 := fun W => valCompare_any k0 n0 s0 k2 n2 s2 W
    have c4 := fun W => refCompareV_any k0 n0 s0 k1 n1 s1 W (by omega) (by omega)
    have c5 := fun W => valCompare_any k1 n1 s1 k0 n0 s0 W
    have c6 := fun W => valCompare_any k0 n0 s0 k0 n0 s0 W
    have htr := cmpV_trans k0 n0 s0 k1 n1 s1 k2 n2 s2
    have hr1 := cmpV_range k0 n0 s0 k1 n1 s1
    have hr2 := cmpV_range k1 n1 s1 k2 n2 s2
    have hr3 := cmpV_range k0 n0 s0 k2 n2 s2
    have heq := cmpV_same k0 n0 s0 k1 n1 s1
    have hev := fun W => eq_val k0 n0 s0 k1 n1 s1 W
    rw [cmpV_neg k0 n0 s0 k1 n1 s1] at c5
    rw [cmpV_self] at c6
    generalize cmpV k0 n0 s0 k1 n1 s1 = X at *
    generalize cmpV k1 n1 s1 k2 n2 s2 = Y at *
    generalize cmpV k0 n0 s0 k2 n2 s2 = Z at *
    generalize sameV k0 n0 s0 k1 n1 s1 = E at *
    unfold valV at c1 c2 c3 c4 c5 c6 hev
    have C1 := Lib.hid c1; have C2 := Lib.hid c2; have C3 := Lib.hid c3; have C4 := Lib.hid c4; have C5 := Lib.hid c5; have C6 := Lib.hid c6
    clear c1 c2 c3 c4 c5 c6
    have hsp : (X ≤ 0 ∧ Y ≤ 0 ∧ Z ≤ 0) ∨ (0 < X) ∨ (X ≤ 0 ∧ 0 < Y) := by omega
    have y0 : -1 ≤ X := by omega
    have y1 : X ≤ 1 := by omega
    clear htr hr1 hr2 hr3 hbig
    rcases hsp with ⟨q1, q2, q3⟩ | q1 | ⟨q1, q2⟩
    all_goals
      go_enter Tryd.func4, Tryd.ntmps4
      go_wp2_with fail
      refine (HAw.out _ (hT.below hb0)).mono ?_
      rintro e x1 ⟨rfl, b1⟩
      have B1 := btV hb0 b1
      have S1 : w.heap.size + 3 ≤ x1.heap.size := by have := b1.size; rw [hsz0] at this; exact this
      have a0 := HB0.out.below (by rw [hsz0]; omega) b1; have a1 := HB1.out.below (by rw [hsz0]; omega) b1; have a2 := HB2.out.below (by rw [hsz0]; omega) b1
      have c0 := a0.c0; have c1 := a0.c1; have c2 := a0.c2; have c3 := a1.c0; have c4 := a1.c1; have c5 := a1.c2; have c6 := a2.c0; have c7 := a2.c1; have c8 := a2.c2
      go_wp2_with fail
      go_region_held3 (fun w' => w'.cell? { block := w.heap.size, off := 0 } = some (.int .i64 k0) ∧ w'.cell? { block := w.heap.size, off := 1 } = some (.int .i64 n0) ∧ w'.cell? { block := w.heap.size, off := 2 } = some (.string s0) ∧ w'.cell? { block := w.heap.size + 1, off := 0 } = some (.int .i64 k1) ∧ w'.cell? { block := w.heap.size + 1, off := 1 } = some (.int .i64 n1) ∧ w'.cell? { block := w.heap.size + 1, off := 2 } = some (.string s1) ∧ w'.cell? { block := w.heap.size + 2, off := 0 } = some (.int .i64 k2) ∧ w'.cell? { block := w.heap.size + 2, off := 1 } = some (.int .i64 n2) ∧ w'.cell? { block := w.heap.size + 2, off := 2 } = some (.string s2))
        (first | exact ⟨h0.c0, h0.c1, h0.c2, h1.c0, h1.c1, h1.c2, h2.c0, h2.c1, h2.c2⟩ | exact ⟨g0.c0, g0.c1, g0.c2, g1.c0, g1.c1, g1.c2, g2.c0, g2.c1, g2.c2⟩ | exact ⟨f0.c0, f0.c1, f0.c2, f1.c0, f1.c1, f1.c2, f2.c0, f2.c1, f2.c2⟩ | exact ⟨c0, c1, c2, c3, c4, c5, c6, c7, c8⟩ | exact ⟨by assumption, by assumption, by assumption, by assumption, by assumption, by assumption, by assumption, by assumption, by assumption⟩)
        ((first
          | (go_at_call 14; have _ := B5; refine (C3.out _).mono ?_; rintro e x4 ⟨rfl, b6⟩; have B6 := btV B5 b6; have h0 := g0.below (by omega) b6; have h1 := g1.below (by omega) b6; have h2 := g2.below (by omega) b6)
          | (go_at_call 14; have _ := B4; refine (C2.out _).mono ?_; rintro e x3 ⟨rfl, b5⟩; have B5 := btV B4 b5; have S5 := Nat.le_trans S4 b5.size; have g0 := f0.below (by omega) b5; have g1 := f1.below (by omega) b5; have g2 := f2.below (by omega) b5)
          | (go_at_call 14; refine (C1.out _).mono ?_; rintro e x2 ⟨rfl, b4⟩; have d4 : Below x1.heap.size x1 x2 := ((Below.refl x1.heap.size x1).drew).trans b4; have B4 := btV B1 d4; have S4 := Nat.le_trans S1 d4.size; have f0 := a0.below (by omega) d4; have f1 := a1.below (by omega) d4; have f2 := a2.below (by omega) d4)))
      clear c0 c1 c2 c3 c4 c5 c6 c7 c8
      have S6 := Nat.le_trans S5 b6.size
      have c0 := h0.c0; have c1 := h0.c1; have c2 := h0.c2; have c3 := h1.c0; have c4 := h1.c1; have c5 := h1.c2; have c6 := h2.c0; have c7 := h2.c1; have c8 := h2.c2
      go_wp2_with fail
      refine (C4.out _).mono ?_
      rintro e x5 ⟨rfl, b7⟩
      have B7 := btV B6 b7
      have S7 := Nat.le_trans S6 b7.size
      have i0 := h0.below (by omega) b7; have i1 := h1.below (by omega) b7
      clear c0 c1 c2 c3 c4 c5 c6 c7 c8
      have c0 := i0.c0; have c1 := i0.c1; have c2 := i0.c2; have c3 := i1.c0; have c4 := i1.c1; have c5 := i1.c2
      go_wp2_with fail
      refine (C5.out _).mono ?_
      rintro e x6 ⟨rfl, b8⟩
      have B8 := btV B7 b8
      have S8 := Nat.le_trans S7 b8.size
      have j0 := i0.below (by omega) b8; have j1 := i1.below (by omega) b8
      clear c0 c1 c2 c3 c4 c5
      have c0 := j0.c0; have c1 := j0.c1; have c2 := j0.c2; have c3 := j1.c0; have c4 := j1.c1; have c5 := j1.c2
      go_wp2_with fail
      refine (C6.out _).mono ?_
      rintro e x7 ⟨rfl, b9⟩
      have B9 := btV B8 b9
      have S9 := Nat.le_trans S8 b9.size
      have l0 := j0.below (by omega) b9; have l1 := j1.below (by omega) b9
      clear c0 c1 c2 c3 c4 c5
      have c0 := l0.c0; have c1 := l0.c1; have c2 := l0.c2; have c3 := l1.c0; have c4 := l1.c1; have c5 := l1.c2
      go_wp2_with fail
      go_ret
      exact ⟨rfl, B9⟩

set_option maxRecDepth 100000 in
theorem lifted (os : Os) (started : os.Started) (H : Type) (enc : TypeId × Value → H) :
    ReturnsInHanded {} Tryd.checked os 4 .any (fun w args => (Rows.valueComparesSpec.pre enc Tryd.prog Tryd.f4 [] false w args ∧ laidMetH Tryd.prog Rows.valueComparesRow.laid w) ∧ sizedMet enc Tryd.prog Tryd.f4 (OpenSpec.ofChange Rows.valueComparesSpec) false w args) (Rows.valueComparesSpec.post enc Tryd.prog Tryd.f4 false true false false) := by
  refine returnsInHanded_of_change_and (C := Tryd.checked) (X := fun w _ => laidMetH Tryd.prog Rows.valueComparesRow.laid w) (fun _ _ _ hh h => h.of_heap hh) own started (by kernel_rfl) Tryd.func4
    (ChangeSpec.witness_shaped (enc := enc) (C := Tryd.checked) (os := os) (X := fun w _ => laidMetH Tryd.prog Rows.valueComparesRow.laid w) false (World.laidAll Tryd.prog os Rows.valueComparesRow.laid) #[.agg #[.int .i64 0, .int .i64 0, .string ByteArray.empty], .agg #[.int .i64 0, .int .i64 0, .string ByteArray.empty], .agg #[.int .i64 0, .int .i64 0, .string ByteArray.empty]] 8 (World.laidAll_os _ _ _)
      (World.shaped_of_ZipB (by kernel_rfl) (by kernel_rfl)) (by kernel_rfl) (by kernel_rfl) (by kernel_rfl)
      (by rw [MakeChecks.laidMetH_plain _ _ _ (by kernel_rfl)]; exact laidMet_laidAll _ (by kernel_rfl) (by kernel_rfl))) ?_
  intro W base args ds gs before hval0 hW _ _ hL _
  have hval : ∀ (j : Nat) t v, Tryd.f4.params[j]? = some t → args[j]? = some v → Value.okWide Tryd.prog W .any base t v := hval0
  have hW' := hW
  obtain ⟨p, q, hA0, hV, rfl, hfz, hnd⟩ := hW
  have hA : DataW.TrodAll enc Tryd.prog W 0 (fun _ => true) true Tryd.f4.params.toList args.toList ds p := hA0
  rw [Tryd.params4] at hA hval
  obtain ⟨v0, vs0, d0, ds0, p0, q0, hargs, rfl, rfl, h0, r0⟩ := trodAll_cons hA
  obtain ⟨v1, vs1, d1, ds1, p1, q1, rfl, rfl, rfl, h1, r1⟩ := trodAll_cons r0
  obtain ⟨v2, vs2, d2, ds2, p2, q2, rfl, rfl, rfl, h2, r2⟩ := trodAll_cons r1
  obtain ⟨rfl, rfl, rfl⟩ := trodAll_nil r2
  obtain rfl : args = #[v0, v1, v2] := by cases args; simp_all
  obtain ⟨rfl, rfl⟩ := trodVars_none hV
  have tv0 := h0
  obtain ⟨k0, n0, s0, rfl, rfl, w0⟩ := open_val (hval 0 23 v0 rfl rfl) h0
  have tv1 := h1
  obtain ⟨k1, n1, s1, rfl, rfl, w1⟩ := open_val (hval 1 23 v1 rfl rfl) h1
  have tv2 := h2
  obtain ⟨k2, n2, s2, rfl, rfl, w2⟩ := open_val (hval 2 23 v2 rfl rfl) h2
  clear hA0 hval0
  rw [MakeChecks.laidMetH_plain _ _ _ (by kernel_rfl)] at hL
  have hT : Std W := std_of_laid hL
  refine (walk k0 n0 s0 k1 n1 s1 k2 n2 s2 w0 w1 w2 W  hT).mono fun e W' ⟨he, bel⟩ => ?_
  subst he
  exact ⟨_, rfl, _, _, _, [], _, [], hW', trodAll_mk1 (shut_bool Tryd.underlying4 _), (trodAll_cons_mk (Below.trod laidOut (by kernel_rfl) (of_decide_eq_true (by kernel_rfl)) tv0 bel (fun _ hx => by cases hx)) (trodAll_cons_mk (Below.trod laidOut (by kernel_rfl) (of_decide_eq_true (by kernel_rfl)) tv1 bel (fun _ hx => by cases hx)) (trodAll_cons_mk (Below.trod laidOut (by kernel_rfl) (of_decide_eq_true (by kernel_rfl)) tv2 bel (fun _ hx => by cases hx)) trodAll_mk0))), rfl, bel.frame _, fun h => by cases h⟩

theorem over : Rows.valueComparesRow.holds Tryd.pinned (OpenSpec.ofChange Rows.valueComparesSpec) :=
  OpenClaim.holds_of_wide 4 Tryd.f4 rfl rfl rfl rfl rfl rfl rfl ⟨rfl, rfl, rfl, rfl, rfl⟩ rfl rfl rfl rfl rfl (by kernel_rfl) Tryd.func4 (by kernel_rfl)
    (of_decide_eq_true (by kernel_rfl)) (by unfold Func.isWrapper; first | (rw [if_pos (by decide +kernel)]; kernel_rfl) | (rw [if_neg (by decide +kernel)]; exact ⟨rfl, rfl⟩))
    (fun os started H enc _ => lifted os started H enc)
theorem proved : Rows.ValueComparesCardSaid :=
  Claim7.holds_tied_plain_at .later [] [.data, .data, .data, .data, .sentinel, .sentinel, .pinned] true _ true
    over (fun _ h => by cases h) (by kernel_rfl) (fun _ h => by cases h) valueCompares_row_tie rfl ⟨rfl, rfl⟩ (by kernel_rfl) rfl
    (fun f fn hf hfn => by
      obtain rfl : f = 4 := Option.some.inj ((show Tryd.prog.funcNamed "cobweb/cobweblaw02.ValueCompares" = some 4 by kernel_rfl).symm.trans hf) |>.symm
      obtain rfl : fn = Tryd.f4 := (Option.some.inj (Tryd.func4.symm.trans hfn)).symm
      exact ⟨by kernel_rfl, fun j t ht => by
        rw [Tryd.params4] at ht
        have hm : t ∈ [23, 23, 23] := by simpa using Array.mem_of_getElem? ht
        have hall : ([23, 23, 23].all fun u => !Tryd.prog.wantsStandIn u) = true := by kernel_rfl
        exact (show Tryd.prog.wantsStandIn t = false by simpa using List.all_eq_true.1 hall t hm)⟩)
    (by kernel_rfl)
end Go.Proofs.YtkimibppfniejaaDoor.valueCompares
