/- Unlike right values have unlike bytes, and unlike texts where these are UTF-8; a value is one thing. -/
import Derived.Test.YtkimibppfniejaaDoorDoorV
import Derived.Test.YtkimibppfniejaaDoorPost
import Derived.Test.YtkimibppfniejaaDoorOpenW
import Derived.Test.YtkimibppfniejaaDoorValLaws
import Derived.Test.YtkimibppfniejaaDoorValBack
namespace Go.Proofs.YtkimibppfniejaaDoor.valueApart
open Go.ChangeShapes Go.WideShapes Go.ChangeAt Go.RowKit
open Go.ChangeMaps (open_string shut_string)
set_option linter.unusedVariables false

set_option maxHeartbeats 40000000 in
set_option maxRecDepth 100000 in
theorem walk (k0 n0 : Int) (s0 : ByteArray) (k1 n1 : Int) (s1 : ByteArray) (w0 : ValIn k0 n0 s0) (w1 : ValIn k1 n1 s1) (w : World)  (hT : Std w) :
    Calls Tryd.prog 7 #[valV k0 n0 s0, valV k1 n1 s1] w fun e w' => e = .returned (.bool true) ∧ Below w.heap.size w w' := by
  have hA0 := w0.2.1.1
  have hA1 := w0.2.1.2
  have hB0 := w1.2.1.1
  have hB1 := w1.2.1.2
  clear w0 w1
  have HAw := Lib.hid (awake_any)
  obtain ⟨W0, hW0, hbx0, hbx1, hb0, hsz0⟩ := two_boxes w k0 n0 s0 k1 n1 s1
  have HX0 := Lib.hid hbx0
  have HX1 := Lib.hid hbx1
  clear hbx0 hbx1
  have hRv := fun W => refRightV_any k0 n0 s0 W
  have hRw := fun W => refRightV_any k1 n1 s1 W
  subst hW0
  cases hp : rightV k0 n0 s0 with
  | false =>
    rw [hp] at hRv
    unfold valV at hRv ⊢
    have HRv := Lib.hid hRv
    clear hRv hp hRw
    go_enter Tryd.func7, Tryd.ntmps7
    go_wp2_with fail
    refine (HAw.out _ (hT.below hb0)).mono ?_
    rintro e x1 ⟨rfl, b1⟩
    have B1 := btV hb0 b1
    have S1 : w.heap.size + 2 ≤ x1.heap.size := by have := b1.size; rw [hsz0] at this; exact this
    have p1 := HX0.out.below (by rw [hsz0]; omega) b1
    have q1 := HX1.out.below (by rw [hsz0]; omega) b1
    have c0 := p1.c0; have c1 := p1.c1; have c2 := p1.c2
    go_wp2_with fail
    refine (HRv.out _).mono ?_
    rintro e x2 ⟨rfl, b2⟩
    have B2 := btV B1 b2
    go_wp2_with fail
    refine (HAw.out _ (hT.below B2)).mono ?_
    rintro e x3 ⟨rfl, b3⟩
    go_wp2_with fail
    go_ret
    exact ⟨rfl, btV B2 b3⟩
  | true =>
    cases hq : rightV k1 n1 s1 with
    | false =>
      rw [hp] at hRv
      rw [hq] at hRw
      unfold valV at hRv hRw ⊢
      have HRv := Lib.hid hRv; have HRw := Lib.hid hRw
      clear hRv hRw hp hq
      go_enter Tryd.func7, Tryd.ntmps7
      go_wp2_with fail
      refine (HAw.out _ (hT.below hb0)).mono ?_
      rintro e x1 ⟨rfl, b1⟩
      have B1 := btV hb0 b1
      have S1 : w.heap.size + 2 ≤ x1.heap.size := by have := b1.size; rw [hsz0] at this; exact this
      have p1 := HX0.out.below (by rw [hsz0]; omega) b1
      have q1 := HX1.out.below (by rw [hsz0]; omega) b1
      have c0 := p1.c0; have c1 := p1.c1; have c2 := p1.c2; have c3 := q1.c0; have c4 := q1.c1; have c5 := q1.c2
      go_wp2_with fail
      refine (HRv.out _).mono ?_
      rintro e x2 ⟨rfl, b2⟩
      have B2 := btV B1 b2
      have S2 := b2.size
      have p2 := p1.below (by omega) b2
      have q2 := q1.below (by omega) b2
      clear c0 c1 c2 c3 c4 c5
      have c0 := q2.c0; have c1 := q2.c1; have c2 := q2.c2
      go_wp2_with fail
      refine (HRw.out _).mono ?_
      rintro e x3 ⟨rfl, b3⟩
      have B3 := btV B2 b3
      go_wp2_with fail
      refine (HAw.out _ (hT.below B3)).mono ?_
      rintro e x4 ⟨rfl, b4⟩
      go_wp2_with fail
      go_ret
      exact ⟨rfl, btV B3 b4⟩
    | true =>
      have hE : sameV k0 n0 s0 k1 n1 s1 = decide (k0 = k1 ∧ n0 = n1 ∧ s0 = s1) := sameV_iff ..
      have hbs := bytes_str hp hq hA0 hA1 hB0 hB1
      have hPr : sameV (readV (printR k0 n0 s0)).1 (readV (printR k0 n0 s0)).2.1 (readV (printR k0 n0 s0)).2.2 k0 n0 s0 = true → sameV (readV (printR k1 n1 s1)).1 (readV (printR k1 n1 s1)).2.1 (readV (printR k1 n1 s1)).2.2 k1 n1 s1 = true → ((printR k0 n0 s0).toList == (printR k1 n1 s1).toList) = sameV k0 n0 s0 k1 n1 s1 := fun h1 h2 => by
        rw [sameV_iff] at h1 h2
        have e1 := of_decide_eq_true h1
        have e2 := of_decide_eq_true h2
        exact print_apart (Prod.ext e1.1 (Prod.ext e1.2.1 e1.2.2)) (Prod.ext e2.1 (Prod.ext e2.2.1 e2.2.2))
      have hsz0' := print_size k0 n0 s0 hp hA0 hA1
      have hsz1' := print_size k1 n1 s1 hq hB0 hB1
      have hti0 : isIntV k0 s0 = true ∨ (isIntV k0 s0 = false ∧ isTextV k0 n0 s0 = true) := by
        have := hp
        rw [rightV_eq] at this
        cases h : isIntV k0 s0 with
        | true => exact .inl rfl
        | false => rw [h, Bool.false_or] at this; exact .inr ⟨rfl, this⟩
      have hti1 : isIntV k1 s1 = true ∨ (isIntV k1 s1 = false ∧ isTextV k1 n1 s1 = true) := by
        have := hq
        rw [rightV_eq] at this
        cases h : isIntV k1 s1 with
        | true => exact .inl rfl
        | false => rw [h, Bool.false_or] at this; exact .inr ⟨rfl, this⟩
      have hint : isIntV k0 s0 = true → isIntV k1 s1 = true → (n0 == n1) = sameV k0 n0 s0 k1 n1 s1 := fun h1 h2 => by
        obtain ⟨e1, e2⟩ := int_empty h1
        obtain ⟨e3, e4⟩ := int_empty h2
        rw [hE, e1, e2, e3, e4, Bool.eq_iff_iff]
        simp
      have hT0 := fun W => thing_any k0 n0 s0 W
      have hT1 := fun W => thing_any k1 n1 s1 W
      have hea : thingE k0 n0 s0 = 0 := by unfold thingE; rw [hp]; rfl
      have heb : thingE k1 n1 s1 = 0 := by unfold thingE; rw [hq]; rfl
      have hva : ∀ W, Calls Tryd.prog 18 #[valV k0 n0 s0] W (ValBytesPost W k0 n0 s0) := fun W => valBytes_any k0 n0 s0 W hA0 hA1
      have hvb : ∀ W, Calls Tryd.prog 18 #[valV k1 n1 s1] W (ValBytesPost W k1 n1 s1) := fun W => valBytes_any k1 n1 s1 W hB0 hB1
      have hposa := bytesR_pos k0 n0 s0 hp
      have hposb := bytesR_pos k1 n1 s1 hq
      unfold ValBytesPost at hva hvb
      rw [hea] at hva hT0
      rw [heb] at hvb hT1
      rw [bytesR_V hp] at hva hposa
      rw [bytesR_V hq] at hvb hposb
      have hP0 := fun W hW => print_any k0 n0 s0 W hW hA0 hA1
      have hP1 := fun W hW => print_any k1 n1 s1 W hW hB0 hB1
      have hD0 := fun W hW => read_any (printR k0 n0 s0) W (by omega) hW
      have hD1 := fun W hW => read_any (printR k1 n1 s1) W (by omega) hW
      have heq := fun W => eq_val k0 n0 s0 k1 n1 s1 W
      have hnu := fun W => neq_val (readV (printR k0 n0 s0)).1 (readV (printR k0 n0 s0)).2.1 (readV (printR k0 n0 s0)).2.2 k0 n0 s0 W
      have hnv := fun W => neq_val (readV (printR k1 n1 s1)).1 (readV (printR k1 n1 s1)).2.1 (readV (printR k1 n1 s1)).2.2 k1 n1 s1 W
      rw [hp] at hRv
      rw [hq] at hRw
      generalize printR k0 n0 s0 = P0 at *
      generalize printR k1 n1 s1 = P1 at *
      obtain ⟨⟨uk, un, us⟩, hu⟩ : ∃ z, readV P0 = z := ⟨_, rfl⟩
      obtain ⟨⟨vk, vn, vs⟩, hv⟩ : ∃ z, readV P1 = z := ⟨_, rfl⟩
      rw [hu] at hD0 hnu hPr
      rw [hv] at hD1 hnv hPr
      simp only [] at hnu hnv hPr hD0 hD1
      generalize readE P0 = eu at *
      generalize readE P1 = ev at *
      generalize sameV uk un us k0 n0 s0 = U at *
      generalize sameV vk vn vs k1 n1 s1 = V at *
      generalize hEE : sameV k0 n0 s0 k1 n1 s1 = E at *
      generalize bytesV k0 n0 s0 = ba at *
      generalize bytesV k1 n1 s1 = bb at *
      obtain ⟨SA, hSA⟩ : ∃ S : ByteArray, (⟨ba.toArray⟩ : ByteArray) = S := ⟨_, rfl⟩
      obtain ⟨SB, hSB⟩ : ∃ S : ByteArray, (⟨bb.toArray⟩ : ByteArray) = S := ⟨_, rfl⟩
      rw [hSA, hSB] at hbs
      obtain ⟨la, hla⟩ : ∃ l, ba.length = l := ⟨_, rfl⟩
      obtain ⟨lb, hlb⟩ : ∃ l, bb.length = l := ⟨_, rfl⟩
      rw [hla] at hva hposa
      rw [hlb] at hvb hposb
      have hUV : (U = false ∧ V = V) ∨ (U = true ∧ V = false) ∨ (U = true ∧ V = true ∧ (P0.toList == P1.toList) = E) := by
        cases U
        · exact .inl ⟨rfl, rfl⟩
        · cases V
          · exact .inr (.inl ⟨rfl, rfl⟩)
          · exact .inr (.inr ⟨rfl, rfl, hPr rfl rfl⟩)
      clear hPr hE hu hv hEE hla hlb
      unfold valV at hRv hRw hT0 hT1 hva hvb hP0 hP1 hD0 hD1 heq hnu hnv ⊢
      have HRv := Lib.hid hRv; have HRw := Lib.hid hRw; have HT0 := Lib.hid hT0; have HT1 := Lib.hid hT1; have HVa := Lib.hid hva; have HVb := Lib.hid hvb; have HP0 := Lib.hid hP0; have HP1 := Lib.hid hP1; have HD0 := Lib.hid hD0; have HD1 := Lib.hid hD1
      clear hRv hRw hT0 hT1 hva hvb hP0 hP1 hD0 hD1 hp hq
      go_enter Tryd.func7, Tryd.ntmps7
      go_wp2_with fail
      refine (HAw.out _ (hT.below hb0)).mono ?_
      rintro e x1 ⟨rfl, b1⟩
      have B1 := btV hb0 b1
      have S1 : w.heap.size + 2 ≤ x1.heap.size := by have := b1.size; rw [hsz0] at this; exact this
      have p1 := HX0.out.below (by rw [hsz0]; omega) b1
      have q1 := HX1.out.below (by rw [hsz0]; omega) b1
      have c0 := p1.c0; have c1 := p1.c1; have c2 := p1.c2; have c3 := q1.c0; have c4 := q1.c1; have c5 := q1.c2
      go_wp2_with fail
      refine (HRv.out _).mono ?_
      rintro e x2 ⟨rfl, b2⟩
      have B2 := btV B1 b2
      have S2 := b2.size
      have p2 := p1.below (by omega) b2
      have q2 := q1.below (by omega) b2
      clear c0 c1 c2 c3 c4 c5
      have c0 := p2.c0; have c1 := p2.c1; have c2 := p2.c2; have c3 := q2.c0; have c4 := q2.c1; have c5 := q2.c2
      go_wp2_with fail
      refine (HRw.out _).mono ?_
      rintro e x3 ⟨rfl, b3⟩
      have B3 := btV B2 b3
      have S3 := b3.size
      have p3 := p2.below (by omega) b3
      have q3 := q2.below (by omega) b3
      clear c0 c1 c2 c3 c4 c5
      have c0 := p3.c0; have c1 := p3.c1; have c2 := p3.c2; have c3 := q3.c0; have c4 := q3.c1; have c5 := q3.c2
      go_wp2_with fail
      refine (HVa.out _).mono ?_
      rintro e x4 ⟨ya, rfl, r4, b4⟩
      have B4 := btV B3 b4
      have S4 := b4.size
      have p4 := p3.below (by omega) b4
      have q4 := q3.below (by omega) b4
      obtain ⟨g0, cap0, rfl⟩ := URow.form r4 hposa
      clear c0 c1 c2 c3 c4 c5
      have c0 := p4.c0; have c1 := p4.c1; have c2 := p4.c2; have c3 := q4.c0; have c4 := q4.c1; have c5 := q4.c2
      go_wp2_with fail
      refine (HVb.out _).mono ?_
      rintro e x5 ⟨yb, rfl, t5, b5⟩
      have B5 := btV B4 b5
      have S5 := b5.size
      have p5 := p4.below (by omega) b5
      have q5 := q4.below (by omega) b5
      have r5 := r4.below b5
      obtain ⟨g1, cap1, rfl⟩ := URow.form t5 hposb
      clear c0 c1 c2 c3 c4 c5
      have c0 := p5.c0; have c1 := p5.c1; have c2 := p5.c2; have c3 := q5.c0; have c4 := q5.c1; have c5 := q5.c2
      go_wp2_with fail
      refine (HP0.out _ (hT.below B5)).mono ?_
      rintro e x6 ⟨rfl, b6⟩
      have B6 := btV B5 b6
      have S6 := b6.size
      have p6 := p5.below (by omega) b6
      have q6 := q5.below (by omega) b6
      have r6 := r5.below b6
      have t6 := t5.below b6
      clear c0 c1 c2 c3 c4 c5
      have c0 := p6.c0; have c1 := p6.c1; have c2 := p6.c2; have c3 := q6.c0; have c4 := q6.c1; have c5 := q6.c2
      go_wp2_with fail
      refine (HD0.out _ (hT.below B6)).mono ?_
      rintro e x8 ⟨rfl, b8⟩
      have B8 := btV B6 b8
      have S8 := b8.size
      obtain ⟨r0', r1', r2', q0', q1', q2'⟩ := Res.new x8
      have u8 := Box.new x8 uk un us
      have sz8 : (x8.alloc (.cells #[.int .i64 uk, .int .i64 un, .string us] 23)).heap.size = x8.heap.size + 1 := by simp
      have bA : Below x8.heap.size x8 (x8.alloc (.cells #[.int .i64 uk, .int .i64 un, .string us] 23)) := (Below.refl _ _).alloc (Nat.le_refl _) _
      have p8 := (p6.below (by omega) b8).below (by omega) bA
      have q8 := (q6.below (by omega) b8).below (by omega) bA
      have r8 := (r6.below b8).below bA
      have t8 := (t6.below b8).below bA
      have B8a := btV B8 bA
      clear c0 c1 c2 c3 c4 c5
      have c0 := p8.c0; have c1 := p8.c1; have c2 := p8.c2; have c3 := q8.c0; have c4 := q8.c1; have c5 := q8.c2
      go_wp2_with fail
      clear r0' r1' r2' q0' q1' q2'
      refine (HP1.out _ (hT.below B8a)).mono ?_
      rintro e x9 ⟨rfl, b9⟩
      have B9 := btV B8a b9
      have S9 := b9.size
      rw [sz8] at S9
      have p9 := p8.below (by omega) b9
      have q9 := q8.below (by omega) b9
      have u9 := u8.below (by omega) b9
      have r9 := r8.below b9
      have t9 := t8.below b9
      clear c0 c1 c2 c3 c4 c5
      have c0 := p9.c0; have c1 := p9.c1; have c2 := p9.c2; have c3 := q9.c0; have c4 := q9.c1; have c5 := q9.c2
      go_wp2_with fail
      refine (HD1.out _ (hT.below B9)).mono ?_
      rintro e x10 ⟨rfl, b10⟩
      have B10 := btV B9 b10
      have S10 := b10.size
      obtain ⟨r0', r1', r2', q0', q1', q2'⟩ := Res.new x10
      have v10 := Box.new x10 vk vn vs
      have sz10 : (x10.alloc (.cells #[.int .i64 vk, .int .i64 vn, .string vs] 23)).heap.size = x10.heap.size + 1 := by simp
      have bC : Below x10.heap.size x10 (x10.alloc (.cells #[.int .i64 vk, .int .i64 vn, .string vs] 23)) := (Below.refl _ _).alloc (Nat.le_refl _) _
      have p11 := (p9.below (by omega) b10).below (by omega) bC
      have q11 := (q9.below (by omega) b10).below (by omega) bC
      have u11 := (u9.below (by omega) b10).below (by omega) bC
      have r11 := (r9.below b10).below bC
      have t11 := (t9.below b10).below bC
      have B11 := btV B10 bC
      have v11 := v10
      clear c0 c1 c2 c3 c4 c5
      have c0 := p11.c0; have c1 := p11.c1; have c2 := p11.c2
      go_wp2_with fail
      clear r0' r1' r2' q0' q1' q2'
      rcases hti0 with h0 | ⟨h0, h0'⟩
      all_goals rcases hti1 with h1 | ⟨h1, h1'⟩
      all_goals
        have j1 := fun W => as_num_int n0 W
        have j2 := fun W => as_num_int n1 W
        have j3 := fun W => as_str_int s0 W
        have j4 := fun W => as_str_int s1 W
        first
          | (rw [show thing0 k0 n0 s0 = numT n0 from by unfold thing0; rw [h0]; rfl] at HT0; unfold numT at HT0)
          | (rw [show thing0 k0 n0 s0 = strT s0 from by unfold thing0; rw [h0, h0']; rfl] at HT0; unfold strT at HT0)
        first
          | (rw [show thing0 k1 n1 s1 = numT n1 from by unfold thing0; rw [h1]; rfl] at HT1; unfold numT at HT1)
          | (rw [show thing0 k1 n1 s1 = strT s1 from by unfold thing0; rw [h1, h1']; rfl] at HT1; unfold strT at HT1)
        try (have hii := hint h0 h1)
        try clear h0'
        try clear h1'
        clear h0 h1 hint
        refine (HT0.out _).mono ?_
        rintro e x12 ⟨rfl, b12⟩
        have B12 := btV B11 b12
        have S12 := b12.size
        have p12 := p11.below (by omega) b12
        have q12 := q11.below (by omega) b12
        have u12 := u11.below (by omega) b12
        have v12 := v11.below (by omega) b12
        have r12 := r11.below b12
        have t12 := t11.below b12
        clear c0 c1 c2
        have c0 := q12.c0; have c1 := q12.c1; have c2 := q12.c2
        go_wp2_with fail
        refine (HT1.out _).mono ?_
        rintro e x13 ⟨rfl, b13⟩
        have B13 := btV B12 b13
        have S13 := b13.size
        have p13 := p12.below (by omega) b13
        have q13 := q12.below (by omega) b13
        have u13 := u12.below (by omega) b13
        have v13 := v12.below (by omega) b13
        have r13 := r12.below b13
        have t13 := t12.below b13
        clear c0 c1 c2
        have c0 := p13.c0; have c1 := p13.c1; have c2 := p13.c2; have c3 := q13.c0; have c4 := q13.c1; have c5 := q13.c2
        go_wp2_with fail
        clear c0 c1 c2 c3 c4 c5
        have dd := (Below.refl x13.heap.size x13).drew
        have hdw : ∀ {a W : World}, Below a.heap.size a W → ∀ n, Below a.heap.size a (W.drewN n) := fun h n => ⟨h.os, h.tape, h.output, h.size, h.block⟩
        have cr := conv_row r13; have ct := conv_row t13; have crd := conv_row (r13.below dd); have ctd := conv_row (t13.below dd)
        rw [hSA] at cr crd
        rw [hSB] at ct ctd
        rcases hUV with ⟨rfl, -⟩ | ⟨rfl, rfl⟩ | ⟨rfl, rfl, hPE⟩
        · have cqa : ∀ n, (convert 36 9 (.slice (some ⟨g0, 0, none⟩) la cap0)).run Tryd.prog (x13.drewN n) = .ok (.string SA) (x13.drewN n) := fun n => by have h := conv_row (r13.below (hdw (Below.refl x13.heap.size x13) n)); rw [hSA] at h; exact h
          have cqb : ∀ n, (convert 36 9 (.slice (some ⟨g1, 0, none⟩) lb cap1)).run Tryd.prog (x13.drewN n) = .ok (.string SB) (x13.drewN n) := fun n => by have h := conv_row (t13.below (hdw (Below.refl x13.heap.size x13) n)); rw [hSB] at h; exact h
          have c0 := p13.c0; have c1 := p13.c1; have c2 := p13.c2; have c3 := q13.c0; have c4 := q13.c1; have c5 := q13.c2; have c6 := u13.c0; have c7 := u13.c1; have c8 := u13.c2; have c9 := v13.c0; have c10 := v13.c1; have c11 := v13.c2
          go_quiet (fail)
          go_wp2_with fail
          go_ret
          exact ⟨rfl, hdw B13 nq⟩
        · have cqa : ∀ n, (convert 36 9 (.slice (some ⟨g0, 0, none⟩) la cap0)).run Tryd.prog (x13.drewN n) = .ok (.string SA) (x13.drewN n) := fun n => by have h := conv_row (r13.below (hdw (Below.refl x13.heap.size x13) n)); rw [hSA] at h; exact h
          have cqb : ∀ n, (convert 36 9 (.slice (some ⟨g1, 0, none⟩) lb cap1)).run Tryd.prog (x13.drewN n) = .ok (.string SB) (x13.drewN n) := fun n => by have h := conv_row (t13.below (hdw (Below.refl x13.heap.size x13) n)); rw [hSB] at h; exact h
          have c0 := p13.c0; have c1 := p13.c1; have c2 := p13.c2; have c3 := q13.c0; have c4 := q13.c1; have c5 := q13.c2; have c6 := u13.c0; have c7 := u13.c1; have c8 := u13.c2; have c9 := v13.c0; have c10 := v13.c1; have c11 := v13.c2
          go_quiet (fail)
          go_wp2_with fail
          go_ret
          exact ⟨rfl, hdw B13 nq⟩
        · go_region_held3 (fun w' => w'.cell? { block := w.heap.size, off := 0 } = some (.int .i64 k0) ∧ w'.cell? { block := w.heap.size, off := 1 } = some (.int .i64 n0) ∧ w'.cell? { block := w.heap.size, off := 2 } = some (.string s0) ∧ w'.cell? { block := w.heap.size + 1, off := 0 } = some (.int .i64 k1) ∧ w'.cell? { block := w.heap.size + 1, off := 1 } = some (.int .i64 n1) ∧ w'.cell? { block := w.heap.size + 1, off := 2 } = some (.string s1) ∧ w'.cell? { block := x8.heap.size, off := 0 } = some (.int .i64 uk) ∧ w'.cell? { block := x8.heap.size, off := 1 } = some (.int .i64 un) ∧ w'.cell? { block := x8.heap.size, off := 2 } = some (.string us) ∧ w'.cell? { block := x10.heap.size, off := 0 } = some (.int .i64 vk) ∧ w'.cell? { block := x10.heap.size, off := 1 } = some (.int .i64 vn) ∧ w'.cell? { block := x10.heap.size, off := 2 } = some (.string vs) ∧ (convert 36 9 (.slice (some ⟨g0, 0, none⟩) la cap0)).run Tryd.prog w' = .ok (.string SA) w' ∧ (convert 36 9 (.slice (some ⟨g1, 0, none⟩) lb cap1)).run Tryd.prog w' = .ok (.string SB) w')
            (first | exact ⟨pZ.c0, pZ.c1, pZ.c2, qZ.c0, qZ.c1, qZ.c2, uZ.c0, uZ.c1, uZ.c2, vZ.c0, vZ.c1, vZ.c2, crZ, ctZ⟩ | exact ⟨pY.c0, pY.c1, pY.c2, qY.c0, qY.c1, qY.c2, uY.c0, uY.c1, uY.c2, vY.c0, vY.c1, vY.c2, crY, ctY⟩ | exact ⟨p13.c0, p13.c1, p13.c2, q13.c0, q13.c1, q13.c2, u13.c0, u13.c1, u13.c2, v13.c0, v13.c1, v13.c2, crd, ctd⟩ | exact ⟨p13.c0, p13.c1, p13.c2, q13.c0, q13.c1, q13.c2, u13.c0, u13.c1, u13.c2, v13.c0, v13.c1, v13.c2, cr, ct⟩ | exact ⟨by assumption, by assumption, by assumption, by assumption, by assumption, by assumption, by assumption, by assumption, by assumption, by assumption, by assumption, by assumption, by assumption, by assumption⟩)
            ((first
              | (go_at_call_of 24 (Value.agg #[Value.int IntKind.i64 k1, Value.int IntKind.i64 n1, Value.string s1]); refine (HP1.out _ (hT.below BY)).mono ?_; rintro e xZ ⟨rfl, bZ⟩; have BZ := btV BY bZ; have SZ := bZ.size; have pZ := pY.below (by omega) bZ; have qZ := qY.below (by omega) bZ; have uZ := uY.below (by omega) bZ; have vZ := vY.below (by omega) bZ; have crZ := conv_row (rY.below bZ); have ctZ := conv_row (tY.below bZ); rw [hSA] at crZ; rw [hSB] at ctZ)
              | (go_at_call_of 24 (Value.agg #[Value.int IntKind.i64 k0, Value.int IntKind.i64 n0, Value.string s0]); refine (HP0.out _ (hT.below (Below.drew B13))).mono ?_; rintro e xY ⟨rfl, bY⟩; have dY : Below x13.heap.size x13 xY := dd.trans bY; have BY := btV B13 dY; have SY := dY.size; have pY := p13.below (by omega) dY; have qY := q13.below (by omega) dY; have uY := u13.below (by omega) dY; have vY := v13.below (by omega) dY; have rY := r13.below dY; have tY := t13.below dY; have crY := conv_row rY; have ctY := conv_row tY; rw [hSA] at crY; rw [hSB] at ctY)))
          clear cr ct crd ctd crY ctY crZ ctZ
          go_wp2_with fail
          go_ret
          exact ⟨rfl, BZ⟩

set_option maxRecDepth 100000 in
theorem lifted (os : Os) (started : os.Started) (H : Type) (enc : TypeId × Value → H) :
    ReturnsInHanded {} Tryd.checked os 7 .any (fun w args => (Rows.valueApartSpec.pre enc Tryd.prog Tryd.f7 [] false w args ∧ laidMetH Tryd.prog Rows.valueApartRow.laid w) ∧ sizedMet enc Tryd.prog Tryd.f7 (OpenSpec.ofChange Rows.valueApartSpec) false w args) (Rows.valueApartSpec.post enc Tryd.prog Tryd.f7 false true false false) := by
  refine returnsInHanded_of_change_and (C := Tryd.checked) (X := fun w _ => laidMetH Tryd.prog Rows.valueApartRow.laid w) (fun _ _ _ hh h => h.of_heap hh) own started (by kernel_rfl) Tryd.func7
    (ChangeSpec.witness_shaped (enc := enc) (C := Tryd.checked) (os := os) (X := fun w _ => laidMetH Tryd.prog Rows.valueApartRow.laid w) false (World.laidAll Tryd.prog os Rows.valueApartRow.laid) #[.agg #[.int .i64 0, .int .i64 0, .string ByteArray.empty], .agg #[.int .i64 0, .int .i64 0, .string ByteArray.empty]] 8 (World.laidAll_os _ _ _)
      (World.shaped_of_ZipB (by kernel_rfl) (by kernel_rfl)) (by kernel_rfl) (by kernel_rfl) (by kernel_rfl)
      (by rw [MakeChecks.laidMetH_plain _ _ _ (by kernel_rfl)]; exact laidMet_laidAll _ (by kernel_rfl) (by kernel_rfl))) ?_
  intro W base args ds gs before hval0 hW _ _ hL _
  have hval : ∀ (j : Nat) t v, Tryd.f7.params[j]? = some t → args[j]? = some v → Value.okWide Tryd.prog W .any base t v := hval0
  have hW' := hW
  obtain ⟨p, q, hA0, hV, rfl, hfz, hnd⟩ := hW
  have hA : DataW.TrodAll enc Tryd.prog W 0 (fun _ => true) true Tryd.f7.params.toList args.toList ds p := hA0
  rw [Tryd.params7] at hA hval
  obtain ⟨v0, vs0, d0, ds0, p0, q0, hargs, rfl, rfl, h0, r0⟩ := trodAll_cons hA
  obtain ⟨v1, vs1, d1, ds1, p1, q1, rfl, rfl, rfl, h1, r1⟩ := trodAll_cons r0
  obtain ⟨rfl, rfl, rfl⟩ := trodAll_nil r1
  obtain rfl : args = #[v0, v1] := by cases args; simp_all
  obtain ⟨rfl, rfl⟩ := trodVars_none hV
  have tv0 := h0
  obtain ⟨k0, n0, s0, rfl, rfl, w0⟩ := open_val (hval 0 23 v0 rfl rfl) h0
  have tv1 := h1
  obtain ⟨k1, n1, s1, rfl, rfl, w1⟩ := open_val (hval 1 23 v1 rfl rfl) h1
  clear hA0 hval0
  rw [MakeChecks.laidMetH_plain _ _ _ (by kernel_rfl)] at hL
  have hT : Std W := std_of_laid hL
  refine (walk k0 n0 s0 k1 n1 s1 w0 w1 W  hT).mono fun e W' ⟨he, bel⟩ => ?_
  subst he
  exact ⟨_, rfl, _, _, _, [], _, [], hW', trodAll_mk1 (shut_bool Tryd.underlying4 _), (trodAll_cons_mk (Below.trod laidOut (by kernel_rfl) (of_decide_eq_true (by kernel_rfl)) tv0 bel (fun _ hx => by cases hx)) (trodAll_cons_mk (Below.trod laidOut (by kernel_rfl) (of_decide_eq_true (by kernel_rfl)) tv1 bel (fun _ hx => by cases hx)) trodAll_mk0)), rfl, bel.frame _, fun h => by cases h⟩

theorem over : Rows.valueApartRow.holds Tryd.pinned (OpenSpec.ofChange Rows.valueApartSpec) :=
  OpenClaim.holds_of_wide 7 Tryd.f7 rfl rfl rfl rfl rfl rfl rfl ⟨rfl, rfl, rfl, rfl, rfl⟩ rfl rfl rfl rfl rfl (by kernel_rfl) Tryd.func7 (by kernel_rfl)
    (of_decide_eq_true (by kernel_rfl)) (by unfold Func.isWrapper; first | (rw [if_pos (by decide +kernel)]; kernel_rfl) | (rw [if_neg (by decide +kernel)]; exact ⟨rfl, rfl⟩))
    (fun os started H enc _ => lifted os started H enc)
theorem proved : Rows.ValueApartCardSaid :=
  Claim7.holds_tied_plain_at .later [] [.data, .data, .data, .data, .sentinel, .sentinel, .pinned] true _ true
    over (fun _ h => by cases h) (by kernel_rfl) (fun _ h => by cases h) valueApart_row_tie rfl ⟨rfl, rfl⟩ (by kernel_rfl) rfl
    (fun f fn hf hfn => by
      obtain rfl : f = 7 := Option.some.inj ((show Tryd.prog.funcNamed "cobweb/cobweblaw02.ValueApart" = some 7 by kernel_rfl).symm.trans hf) |>.symm
      obtain rfl : fn = Tryd.f7 := (Option.some.inj (Tryd.func7.symm.trans hfn)).symm
      exact ⟨by kernel_rfl, fun j t ht => by
        rw [Tryd.params7] at ht
        have hm : t ∈ [23, 23] := by simpa using Array.mem_of_getElem? ht
        have hall : ([23, 23].all fun u => !Tryd.prog.wantsStandIn u) = true := by kernel_rfl
        exact (show Tryd.prog.wantsStandIn t = false by simpa using List.all_eq_true.1 hall t hm)⟩)
    (by kernel_rfl)
end Go.Proofs.YtkimibppfniejaaDoor.valueApart
