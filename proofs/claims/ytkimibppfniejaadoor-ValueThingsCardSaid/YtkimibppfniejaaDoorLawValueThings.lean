/- Which values are right, their things and who panics, is as the document says. -/
import Derived.Test.YtkimibppfniejaaDoorDoorV
import Derived.Test.YtkimibppfniejaaDoorPost
import Derived.Test.YtkimibppfniejaaDoorOpenW
import Derived.Test.YtkimibppfniejaaDoorValLaws
namespace Go.Proofs.YtkimibppfniejaaDoor.valueThings
open Go.ChangeShapes Go.WideShapes Go.ChangeAt Go.RowKit
open Go.ChangeMaps (open_string shut_string)
set_option linter.unusedVariables false

set_option maxHeartbeats 4000000 in
set_option maxRecDepth 100000 in
theorem walk (k0 n0 : Int) (s0 : ByteArray) (k1 n1 : Int) (s1 : ByteArray) (w0 : ValIn k0 n0 s0) (w1 : ValIn k1 n1 s1) (w : World)  (hT : Std w) :
    Calls Tryd.prog 3 #[valV k0 n0 s0, valV k1 n1 s1] w fun e w' => e = .returned (.bool true) ∧ Below w.heap.size w w' := by
  have HAw := Lib.hid (awake_any)
  have HTh := Lib.hid (fun W => thing_any k0 n0 s0 W)
  have HR1 := Lib.hid (fun W => right_new1 k0 n0 s0 W)
  have HR2 := Lib.hid (fun W => right_new2 k0 n0 s0 k1 n1 s1 W)
  have HR0 := Lib.hid (fun W => right_new0 W)
  obtain ⟨W0, hW0, hbx0, hbx1, hb0, hsz0⟩ := two_boxes w k0 n0 s0 k1 n1 s1
  obtain ⟨q, hq⟩ : ∃ q, rightV k1 n1 s1 = q := ⟨_, rfl⟩
  cases h1 : isIntV k0 s0 with
  | true =>
    obtain ⟨rfl, rfl⟩ := isIntV_parts h1
    have hr : rightV 1 n0 ⟨#[]⟩ = true := by rw [rightV_eq, h1]; rfl
    have ht0 : thing0 1 n0 ⟨#[]⟩ = numT n0 := by unfold thing0; rw [h1]; rfl
    have hte : thingE 1 n0 ⟨#[]⟩ = 0 := by unfold thingE; rw [hr]; rfl
    have h2 : isTextV 1 n0 ⟨#[]⟩ = false := by unfold isTextV; simp
    have HBn := Lib.hid (fun W => broke_number_ok 1 n0 ⟨#[]⟩ W h1)
    have HBs := Lib.hid (fun W => broke_string_no 1 n0 ⟨#[]⟩ W h2)
    rw [ht0, hte] at HTh
    rw [hr] at HR1 HR2
    rw [hq] at HR2
    have HRv := Lib.hid (fun W => refRightV_any 1 n0 ⟨#[]⟩ W)
    rw [hr] at HRv
    have HRw := Lib.hid (fun W => refRightV_any k1 n1 s1 W)
    rw [hq] at HRw
    unfold valV at HTh HBn HBs HRv HRw ⊢
    unfold numT at HTh
    have t1 := fun W => as_num_int n0 W
    have t2 := fun W => as_num_str n0 W
    simp only [Bool.true_and] at HR2
    have HB0 := Lib.hid hbx0
    have HB1 := Lib.hid hbx1
    clear hbx0 hbx1 hr ht0 hte hq h1 h2
    subst hW0
    go_enter Tryd.func3, Tryd.ntmps3
    go_wp2_with fail
    refine (HAw.out _ (hT.below hb0)).mono ?_
    rintro e w1 ⟨rfl, b1⟩
    have B1 := btV hb0 b1
    have S1 : w.heap.size + 2 ≤ w1.heap.size := by have := b1.size; rw [hsz0] at this; exact this
    have x0 := HB0.out.below (by rw [hsz0]; omega) b1
    have x1 := HB1.out.below (by rw [hsz0]; omega) b1
    have c0 := x0.c0; have c1 := x0.c1; have c2 := x0.c2; have c3 := x1.c0; have c4 := x1.c1; have c5 := x1.c2
    go_wp2_with fail
    go_region_held3 (fun w' => w'.cell? { block := w.heap.size, off := 0 } = some (.int .i64 1) ∧ w'.cell? { block := w.heap.size, off := 1 } = some (.int .i64 n0) ∧ w'.cell? { block := w.heap.size, off := 2 } = some (.string ⟨#[]⟩) ∧ w'.cell? { block := w.heap.size + 1, off := 0 } = some (.int .i64 k1) ∧ w'.cell? { block := w.heap.size + 1, off := 1 } = some (.int .i64 n1) ∧ w'.cell? { block := w.heap.size + 1, off := 2 } = some (.string s1) ∧ Below w.heap.size w w')
      (first | exact ⟨z0.c0, z0.c1, z0.c2, z1.c0, z1.c1, z1.c2, B6⟩ | exact ⟨y0.c0, y0.c1, y0.c2, y1.c0, y1.c1, y1.c2, B5⟩ | exact ⟨c0, c1, c2, c3, c4, c5, Below.drew B1⟩ | exact ⟨c0, c1, c2, c3, c4, c5, B1⟩ | exact ⟨by assumption, by assumption, by assumption, by assumption, by assumption, by assumption, by assumption⟩)
      ((first
        | (go_at_call_of 10 (Value.agg #[Value.int IntKind.i64 k1, Value.int IntKind.i64 n1, Value.string s1]); refine (HRw.out _).mono ?_; rintro e w6 ⟨rfl, b6⟩; have B6 := btV B5 b6; have z0 := y0.below (by have := d5.size; omega) b6; have z1 := y1.below (by have := d5.size; omega) b6)
        | (go_at_call_of 10 (Value.agg #[Value.int IntKind.i64 1, Value.int IntKind.i64 n0, Value.string ⟨#[]⟩]); refine (HRv.out _).mono ?_; rintro e w5 ⟨rfl, b5⟩; have d5 : Below w1.heap.size w1 w5 := ((Below.refl w1.heap.size w1).drew).trans b5; have B5 := btV B1 d5; have y0 := x0.below (by omega) d5; have y1 := x1.below (by omega) d5)))
    have S6 : w1.heap.size ≤ w6.heap.size := Nat.le_trans d5.size b6.size
    clear c0 c1 c2 c3 c4 c5
    go_wp2_with fail
    refine (HTh.out _).mono ?_
    rintro e w7 ⟨rfl, b7⟩
    have B7 := btV B6 b7
    have u0 := z0.below (by omega) b7; have u1 := z1.below (by omega) b7
    have c0 := u0.c0; have c1 := u0.c1; have c2 := u0.c2; have S7 := b7.size
    go_wp2_with fail
    refine (HR1.out _).mono ?_
    rintro e w8 ⟨rfl, b8⟩
    have B8 := btV B7 b8
    have v0 := u0.below (by omega) b8; have v1 := u1.below (by omega) b8; have S8 := b8.size
    clear c0 c1 c2
    have c0 := v0.c0; have c1 := v0.c1; have c2 := v0.c2; have c3 := v1.c0; have c4 := v1.c1; have c5 := v1.c2
    go_wp2_with fail
    refine (HR2.out _).mono ?_
    rintro e w9 ⟨rfl, b9⟩
    have B9 := btV B8 b9
    have p0 := v0.below (by omega) b9; have S9 := b9.size
    clear c0 c1 c2 c3 c4 c5
    go_wp2_with fail
    refine (HR0.out _).mono ?_
    rintro e w10 ⟨rfl, b10⟩
    have B10 := btV B9 b10
    have q0 := p0.below (by omega) b10; have S10 := b10.size
    have c0 := q0.c0; have c1 := q0.c1; have c2 := q0.c2
    go_wp2_with fail
    refine (HBn.out _).mono ?_
    rintro e w11 ⟨rfl, b11⟩
    have B11 := btV B10 b11
    have r0 := q0.below (by omega) b11; have S11 := b11.size
    clear c0 c1 c2
    have c0 := r0.c0; have c1 := r0.c1; have c2 := r0.c2
    go_wp2_with fail
    refine (HBs.out _).mono ?_
    rintro e w12 ⟨rfl, b12⟩
    have B12 := btV B11 b12
    have g0 := r0.below (by omega) b12; have S12 := b12.size
    clear c0 c1 c2
    have c0 := g0.c0; have c1 := g0.c1; have c2 := g0.c2
    go_wp2_with fail
    go_ret
    exact ⟨rfl, B12⟩
  | false =>
    cases h2 : isTextV k0 n0 s0 with
    | true =>
      obtain ⟨rfl, rfl, hs0⟩ := isTextV_parts h2
      have hr : rightV 2 0 s0 = true := by rw [rightV_eq, h1, h2]; rfl
      have ht0 : thing0 2 0 s0 = strT s0 := by unfold thing0; rw [h1, h2]; rfl
      have hte : thingE 2 0 s0 = 0 := by unfold thingE; rw [hr]; rfl
      have HBn := Lib.hid (fun W => broke_number_no 2 0 s0 W h1)
      have HBs := Lib.hid (fun W => broke_string_ok 2 0 s0 W h2)
      rw [ht0, hte] at HTh
      rw [hr] at HR1 HR2
      rw [hq] at HR2
      have HRv := Lib.hid (fun W => refRightV_any 2 0 s0 W)
      rw [hr] at HRv
      have HRw := Lib.hid (fun W => refRightV_any k1 n1 s1 W)
      rw [hq] at HRw
      unfold valV at HTh HBn HBs HRv HRw ⊢
      unfold strT at HTh
      have t1 := fun W => as_str_int s0 W
      have t2 := fun W => as_str_str s0 W
      simp only [Bool.true_and] at HR2
      have HB0 := Lib.hid hbx0
      have HB1 := Lib.hid hbx1
      clear hbx0 hbx1 hr ht0 hte hq h1 h2
      have hqs : (s0.toList == s0.toList) = true := str_same rfl
      subst hW0
      go_enter Tryd.func3, Tryd.ntmps3
      go_wp2_with fail
      refine (HAw.out _ (hT.below hb0)).mono ?_
      rintro e w1 ⟨rfl, b1⟩
      have B1 := btV hb0 b1
      have S1 : w.heap.size + 2 ≤ w1.heap.size := by have := b1.size; rw [hsz0] at this; exact this
      have x0 := HB0.out.below (by rw [hsz0]; omega) b1
      have x1 := HB1.out.below (by rw [hsz0]; omega) b1
      have c0 := x0.c0; have c1 := x0.c1; have c2 := x0.c2; have c3 := x1.c0; have c4 := x1.c1; have c5 := x1.c2
      go_wp2_with fail
      go_region_held3 (fun w' => w'.cell? { block := w.heap.size, off := 0 } = some (.int .i64 2) ∧ w'.cell? { block := w.heap.size, off := 1 } = some (.int .i64 0) ∧ w'.cell? { block := w.heap.size, off := 2 } = some (.string s0) ∧ w'.cell? { block := w.heap.size + 1, off := 0 } = some (.int .i64 k1) ∧ w'.cell? { block := w.heap.size + 1, off := 1 } = some (.int .i64 n1) ∧ w'.cell? { block := w.heap.size + 1, off := 2 } = some (.string s1) ∧ Below w.heap.size w w')
        (first | exact ⟨z0.c0, z0.c1, z0.c2, z1.c0, z1.c1, z1.c2, B6⟩ | exact ⟨y0.c0, y0.c1, y0.c2, y1.c0, y1.c1, y1.c2, B5⟩ | exact ⟨c0, c1, c2, c3, c4, c5, Below.drew B1⟩ | exact ⟨c0, c1, c2, c3, c4, c5, B1⟩ | exact ⟨by assumption, by assumption, by assumption, by assumption, by assumption, by assumption, by assumption⟩)
        ((first
          | (go_at_call_of 10 (Value.agg #[Value.int IntKind.i64 k1, Value.int IntKind.i64 n1, Value.string s1]); refine (HRw.out _).mono ?_; rintro e w6 ⟨rfl, b6⟩; have B6 := btV B5 b6; have z0 := y0.below (by have := d5.size; omega) b6; have z1 := y1.below (by have := d5.size; omega) b6)
          | (go_at_call_of 10 (Value.agg #[Value.int IntKind.i64 2, Value.int IntKind.i64 0, Value.string s0]); refine (HRv.out _).mono ?_; rintro e w5 ⟨rfl, b5⟩; have d5 : Below w1.heap.size w1 w5 := ((Below.refl w1.heap.size w1).drew).trans b5; have B5 := btV B1 d5; have y0 := x0.below (by omega) d5; have y1 := x1.below (by omega) d5)))
      have S6 : w1.heap.size ≤ w6.heap.size := Nat.le_trans d5.size b6.size
      clear c0 c1 c2 c3 c4 c5
      go_wp2_with fail
      refine (HTh.out _).mono ?_
      rintro e w7 ⟨rfl, b7⟩
      have B7 := btV B6 b7
      have u0 := z0.below (by omega) b7; have u1 := z1.below (by omega) b7
      have c0 := u0.c0; have c1 := u0.c1; have c2 := u0.c2; have S7 := b7.size
      go_wp2_with fail
      refine (HR1.out _).mono ?_
      rintro e w8 ⟨rfl, b8⟩
      have B8 := btV B7 b8
      have v0 := u0.below (by omega) b8; have v1 := u1.below (by omega) b8; have S8 := b8.size
      clear c0 c1 c2
      have c0 := v0.c0; have c1 := v0.c1; have c2 := v0.c2; have c3 := v1.c0; have c4 := v1.c1; have c5 := v1.c2
      go_wp2_with fail
      refine (HR2.out _).mono ?_
      rintro e w9 ⟨rfl, b9⟩
      have B9 := btV B8 b9
      have p0 := v0.below (by omega) b9; have S9 := b9.size
      clear c0 c1 c2 c3 c4 c5
      go_wp2_with fail
      refine (HR0.out _).mono ?_
      rintro e w10 ⟨rfl, b10⟩
      have B10 := btV B9 b10
      have q0 := p0.below (by omega) b10; have S10 := b10.size
      have c0 := q0.c0; have c1 := q0.c1; have c2 := q0.c2
      go_wp2_with fail
      refine (HBn.out _).mono ?_
      rintro e w11 ⟨rfl, b11⟩
      have B11 := btV B10 b11
      have r0 := q0.below (by omega) b11; have S11 := b11.size
      clear c0 c1 c2
      have c0 := r0.c0; have c1 := r0.c1; have c2 := r0.c2
      go_wp2_with fail
      refine (HBs.out _).mono ?_
      rintro e w12 ⟨rfl, b12⟩
      have B12 := btV B11 b12
      have g0 := r0.below (by omega) b12; have S12 := b12.size
      clear c0 c1 c2
      have c0 := g0.c0; have c1 := g0.c1; have c2 := g0.c2
      go_wp2_with fail
      go_ret
      exact ⟨rfl, B12⟩
    | false =>
      have hr : rightV k0 n0 s0 = false := by rw [rightV_eq, h1, h2]; rfl
      have ht0 : thing0 k0 n0 s0 = .nilIface := by unfold thing0; rw [h1, h2]; rfl
      have hte : thingE k0 n0 s0 = 22 := by unfold thingE; rw [hr]; rfl
      have HBn := Lib.hid (fun W => broke_number_no k0 n0 s0 W h1)
      have HBs := Lib.hid (fun W => broke_string_no k0 n0 s0 W h2)
      rw [ht0, hte] at HTh
      rw [hr] at HR1 HR2
      rw [hq] at HR2
      have HRv := Lib.hid (fun W => refRightV_any k0 n0 s0 W)
      rw [hr] at HRv
      have HRw := Lib.hid (fun W => refRightV_any k1 n1 s1 W)
      rw [hq] at HRw
      unfold valV at HTh HBn HBs HRv HRw ⊢
      simp only [Bool.false_and] at HR2
      have HB0 := Lib.hid hbx0
      have HB1 := Lib.hid hbx1
      clear hbx0 hbx1 hr ht0 hte hq h1 h2
      subst hW0
      go_enter Tryd.func3, Tryd.ntmps3
      go_wp2_with fail
      refine (HAw.out _ (hT.below hb0)).mono ?_
      rintro e w1 ⟨rfl, b1⟩
      have B1 := btV hb0 b1
      have S1 : w.heap.size + 2 ≤ w1.heap.size := by have := b1.size; rw [hsz0] at this; exact this
      have x0 := HB0.out.below (by rw [hsz0]; omega) b1
      have x1 := HB1.out.below (by rw [hsz0]; omega) b1
      have c0 := x0.c0; have c1 := x0.c1; have c2 := x0.c2; have c3 := x1.c0; have c4 := x1.c1; have c5 := x1.c2
      go_wp2_with fail
      go_region_held3 (fun w' => w'.cell? { block := w.heap.size, off := 0 } = some (.int .i64 k0) ∧ w'.cell? { block := w.heap.size, off := 1 } = some (.int .i64 n0) ∧ w'.cell? { block := w.heap.size, off := 2 } = some (.string s0) ∧ w'.cell? { block := w.heap.size + 1, off := 0 } = some (.int .i64 k1) ∧ w'.cell? { block := w.heap.size + 1, off := 1 } = some (.int .i64 n1) ∧ w'.cell? { block := w.heap.size + 1, off := 2 } = some (.string s1) ∧ Below w.heap.size w w')
        (first | exact ⟨z0.c0, z0.c1, z0.c2, z1.c0, z1.c1, z1.c2, B6⟩ | exact ⟨y0.c0, y0.c1, y0.c2, y1.c0, y1.c1, y1.c2, B5⟩ | exact ⟨c0, c1, c2, c3, c4, c5, Below.drew B1⟩ | exact ⟨c0, c1, c2, c3, c4, c5, B1⟩ | exact ⟨by assumption, by assumption, by assumption, by assumption, by assumption, by assumption, by assumption⟩)
        ((first
          | (go_at_call_of 10 (Value.agg #[Value.int IntKind.i64 k1, Value.int IntKind.i64 n1, Value.string s1]); refine (HRw.out _).mono ?_; rintro e w6 ⟨rfl, b6⟩; have B6 := btV B5 b6; have z0 := y0.below (by have := d5.size; omega) b6; have z1 := y1.below (by have := d5.size; omega) b6)
          | (go_at_call_of 10 (Value.agg #[Value.int IntKind.i64 k0, Value.int IntKind.i64 n0, Value.string s0]); refine (HRv.out _).mono ?_; rintro e w5 ⟨rfl, b5⟩; have d5 : Below w1.heap.size w1 w5 := ((Below.refl w1.heap.size w1).drew).trans b5; have B5 := btV B1 d5; have y0 := x0.below (by omega) d5; have y1 := x1.below (by omega) d5)))
      have S6 : w1.heap.size ≤ w6.heap.size := Nat.le_trans d5.size b6.size
      clear c0 c1 c2 c3 c4 c5
      go_wp2_with fail
      refine (HTh.out _).mono ?_
      rintro e w7 ⟨rfl, b7⟩
      have B7 := btV B6 b7
      have u0 := z0.below (by omega) b7; have u1 := z1.below (by omega) b7
      have c0 := u0.c0; have c1 := u0.c1; have c2 := u0.c2; have S7 := b7.size
      go_wp2_with fail
      refine (HR1.out _).mono ?_
      rintro e w8 ⟨rfl, b8⟩
      have B8 := btV B7 b8
      have v0 := u0.below (by omega) b8; have v1 := u1.below (by omega) b8; have S8 := b8.size
      clear c0 c1 c2
      have c0 := v0.c0; have c1 := v0.c1; have c2 := v0.c2; have c3 := v1.c0; have c4 := v1.c1; have c5 := v1.c2
      go_wp2_with fail
      refine (HR2.out _).mono ?_
      rintro e w9 ⟨rfl, b9⟩
      have B9 := btV B8 b9
      have p0 := v0.below (by omega) b9; have S9 := b9.size
      clear c0 c1 c2 c3 c4 c5
      go_wp2_with fail
      refine (HR0.out _).mono ?_
      rintro e w10 ⟨rfl, b10⟩
      have B10 := btV B9 b10
      have q0 := p0.below (by omega) b10; have S10 := b10.size
      have c0 := q0.c0; have c1 := q0.c1; have c2 := q0.c2
      go_wp2_with fail
      refine (HBn.out _).mono ?_
      rintro e w11 ⟨rfl, b11⟩
      have B11 := btV B10 b11
      have r0 := q0.below (by omega) b11; have S11 := b11.size
      clear c0 c1 c2
      have c0 := r0.c0; have c1 := r0.c1; have c2 := r0.c2
      go_wp2_with fail
      refine (HBs.out _).mono ?_
      rintro e w12 ⟨rfl, b12⟩
      have B12 := btV B11 b12
      have g0 := r0.below (by omega) b12; have S12 := b12.size
      clear c0 c1 c2
      have c0 := g0.c0; have c1 := g0.c1; have c2 := g0.c2
      go_wp2_with fail
      go_ret
      exact ⟨rfl, B12⟩

set_option maxRecDepth 100000 in
theorem lifted (os : Os) (started : os.Started) (H : Type) (enc : TypeId × Value → H) :
    ReturnsInHanded {} Tryd.checked os 3 .any (fun w args => (Rows.valueThingsSpec.pre enc Tryd.prog Tryd.f3 [] false w args ∧ laidMetH Tryd.prog Rows.valueThingsRow.laid w) ∧ sizedMet enc Tryd.prog Tryd.f3 (OpenSpec.ofChange Rows.valueThingsSpec) false w args) (Rows.valueThingsSpec.post enc Tryd.prog Tryd.f3 false true false false) := by
  refine returnsInHanded_of_change_and (C := Tryd.checked) (X := fun w _ => laidMetH Tryd.prog Rows.valueThingsRow.laid w) (fun _ _ _ hh h => h.of_heap hh) own started (by kernel_rfl) Tryd.func3
    (ChangeSpec.witness_shaped (enc := enc) (C := Tryd.checked) (os := os) (X := fun w _ => laidMetH Tryd.prog Rows.valueThingsRow.laid w) false (World.laidAll Tryd.prog os Rows.valueThingsRow.laid) #[.agg #[.int .i64 0, .int .i64 0, .string ByteArray.empty], .agg #[.int .i64 0, .int .i64 0, .string ByteArray.empty]] 8 (World.laidAll_os _ _ _)
      (World.shaped_of_ZipB (by kernel_rfl) (by kernel_rfl)) (by kernel_rfl) (by kernel_rfl) (by kernel_rfl)
      (by rw [MakeChecks.laidMetH_plain _ _ _ (by kernel_rfl)]; exact laidMet_laidAll _ (by kernel_rfl) (by kernel_rfl))) ?_
  intro W base args ds gs before hval0 hW _ _ hL _
  have hval : ∀ (j : Nat) t v, Tryd.f3.params[j]? = some t → args[j]? = some v → Value.okWide Tryd.prog W .any base t v := hval0
  have hW' := hW
  obtain ⟨p, q, hA0, hV, rfl, hfz, hnd⟩ := hW
  have hA : DataW.TrodAll enc Tryd.prog W 0 (fun _ => true) true Tryd.f3.params.toList args.toList ds p := hA0
  rw [Tryd.params3] at hA hval
  obtain ⟨v0, vs0, d0, ds0, p0, q0, hargs, rfl, rfl, h0, r0⟩ := trodAll_cons hA
  obtain ⟨v1, vs1, d1, ds1, p1, q1, rfl, rfl, rfl, h1, r1⟩ := trodAll_cons r0
  obtain ⟨rfl, rfl, rfl⟩ := trodAll_nil r1
  obtain rfl : args = #[v0, v1] := by cases args; simp_all
  obtain ⟨rfl, rfl⟩ := trodVars_none hV
  have tv0 := h0
  obtain ⟨k0, n0, s0, rfl, rfl, w0⟩ := open_val (hval 0 23 v0 rfl rfl) h0
  have tv1 := h1
  obtain ⟨k1, n1, s1, rfl, rfl, w1⟩ := open_val (hval 1 23 v1 rfl rfl) h1
  clear hA0 hval0
  rw [MakeChecks.laidMetH_plain _ _ _ (by kernel_rfl)] at hL
  have hT : Std W := std_of_laid hL
  refine (walk k0 n0 s0 k1 n1 s1 w0 w1 W  hT).mono fun e W' ⟨he, bel⟩ => ?_
  subst he
  exact ⟨_, rfl, _, _, _, [], _, [], hW', trodAll_mk1 (shut_bool Tryd.underlying4 _), (trodAll_cons_mk (Below.trod laidOut (by kernel_rfl) (of_decide_eq_true (by kernel_rfl)) tv0 bel (fun _ hx => by cases hx)) (trodAll_cons_mk (Below.trod laidOut (by kernel_rfl) (of_decide_eq_true (by kernel_rfl)) tv1 bel (fun _ hx => by cases hx)) trodAll_mk0)), rfl, bel.frame _, fun h => by cases h⟩

theorem over : Rows.valueThingsRow.holds Tryd.pinned (OpenSpec.ofChange Rows.valueThingsSpec) :=
  OpenClaim.holds_of_wide 3 Tryd.f3 rfl rfl rfl rfl rfl rfl rfl ⟨rfl, rfl, rfl, rfl, rfl⟩ rfl rfl rfl rfl rfl (by kernel_rfl) Tryd.func3 (by kernel_rfl)
    (of_decide_eq_true (by kernel_rfl)) (by unfold Func.isWrapper; first | (rw [if_pos (by decide +kernel)]; kernel_rfl) | (rw [if_neg (by decide +kernel)]; exact ⟨rfl, rfl⟩))
    (fun os started H enc _ => lifted os started H enc)
theorem proved : Rows.ValueThingsCardSaid :=
  Claim7.holds_tied_plain_at .later [] [.data, .data, .data, .data, .sentinel, .sentinel, .pinned] true _ true
    over (fun _ h => by cases h) (by kernel_rfl) (fun _ h => by cases h) valueThings_row_tie rfl ⟨rfl, rfl⟩ (by kernel_rfl) rfl
    (fun f fn hf hfn => by
      obtain rfl : f = 3 := Option.some.inj ((show Tryd.prog.funcNamed "cobweb/cobweblaw02.ValueThings" = some 3 by kernel_rfl).symm.trans hf) |>.symm
      obtain rfl : fn = Tryd.f3 := (Option.some.inj (Tryd.func3.symm.trans hfn)).symm
      exact ⟨by kernel_rfl, fun j t ht => by
        rw [Tryd.params3] at ht
        have hm : t ∈ [23, 23] := by simpa using Array.mem_of_getElem? ht
        have hall : ([23, 23].all fun u => !Tryd.prog.wantsStandIn u) = true := by kernel_rfl
        exact (show Tryd.prog.wantsStandIn t = false by simpa using List.all_eq_true.1 hall t hm)⟩)
    (by kernel_rfl)
end Go.Proofs.YtkimibppfniejaaDoor.valueThings
