/- Values' bytes are ordered as the values, and none are how others begin; a whole number's text, and a text of runes', is read as itself. -/
import Derived.Test.YtkimibppfniejaaDoorDoorV
import Derived.Test.YtkimibppfniejaaDoorPost
import Derived.Test.YtkimibppfniejaaDoorOpenW
import Derived.Test.YtkimibppfniejaaDoorValLaws
import Derived.Test.YtkimibppfniejaaDoorValOrders
namespace Go.Proofs.YtkimibppfniejaaDoor.valueOrders
open Go.ChangeShapes Go.WideShapes Go.ChangeAt Go.RowKit
open Go.ChangeMaps (open_string shut_string)
set_option linter.unusedVariables false

set_option maxHeartbeats 4000000 in
set_option maxRecDepth 100000 in
theorem walk (k0 n0 : Int) (s0 : ByteArray) (k1 n1 : Int) (s1 : ByteArray) (a2 : Option Addr) (l2 c2 : Nat) (z2 : List Int) (w0 : ValIn k0 n0 s0) (w1 : ValIn k1 n1 s1) (w : World) (w2 : Slc w a2 l2 c2 z2) (hT : Std w) :
    Calls Tryd.prog 6 #[valV k0 n0 s0, valV k1 n1 s1, .slice a2 l2 c2] w fun e w' => e = .returned (.bool true) ∧ Below w.heap.size w w' := by
  have hA0 := w0.2.1.1
  have hA1 := w0.2.1.2
  have hB0 := w1.2.1.1
  have hB1 := w1.2.1.2
  clear w0 w1
  obtain ⟨hl2, hlc, hrd, hz2⟩ := w2
  clear hz2
  subst hl2
  have HRd := Lib.hid hrd
  clear hrd
  have HAw := Lib.hid (awake_any)
  obtain ⟨W0, hW0, hbx0, hbx1, hb0, hsz0⟩ := two_boxes w k0 n0 s0 k1 n1 s1
  have HX0 := Lib.hid hbx0
  have HX1 := Lib.hid hbx1
  clear hbx0 hbx1
  have hRv := fun W => refRightV_any k0 n0 s0 W
  have hRw := fun W => refRightV_any k1 n1 s1 W
  subst hW0
  by_cases hbig : 50 < z2.length
  · unfold valV
    go_enter Tryd.func6, Tryd.ntmps6
    go_wp2_with fail
    refine (HAw.out _ (hT.below hb0)).mono ?_
    rintro e x1 ⟨rfl, b1⟩
    have B1 := btV hb0 b1
    have S1 : w.heap.size + 2 ≤ x1.heap.size := by have := b1.size; rw [hsz0] at this; exact this
    have p1 := HX0.out.below (by rw [hsz0]; omega) b1
    have q1 := HX1.out.below (by rw [hsz0]; omega) b1
    go_wp2_with fail
    refine (HAw.out _ (hT.below B1)).mono ?_
    rintro e xx ⟨rfl, bx⟩
    go_wp2_with fail
    go_ret
    exact ⟨rfl, btV B1 bx⟩
  · cases hp : rightV k0 n0 s0 with
    | false =>
      rw [hp] at hRv
      unfold valV at hRv ⊢
      have HRv := Lib.hid hRv
      clear hRv hp hRw
      go_enter Tryd.func6, Tryd.ntmps6
      go_wp2_with fail
      refine (HAw.out _ (hT.below hb0)).mono ?_
      rintro e x1 ⟨rfl, b1⟩
      have B1 := btV hb0 b1
      have S1 : w.heap.size + 2 ≤ x1.heap.size := by have := b1.size; rw [hsz0] at this; exact this
      have p1 := HX0.out.below (by rw [hsz0]; omega) b1
      have q1 := HX1.out.below (by rw [hsz0]; omega) b1
      have c0 := p1.c0; have c1 := p1.c1; have c2' := p1.c2; have c3 := q1.c0; have c4 := q1.c1; have c5 := q1.c2
      go_wp2_with fail
      refine (HRv.out _).mono ?_
      rintro e x2 ⟨rfl, b2⟩
      have B2 := btV B1 b2
      have S2 := b2.size
      go_wp2_with fail
      refine (HAw.out _ (hT.below B2)).mono ?_
      rintro e xx ⟨rfl, bx⟩
      go_wp2_with fail
      go_ret
      exact ⟨rfl, btV B2 bx⟩
    | true =>
      cases hq : rightV k1 n1 s1 with
      | false =>
        rw [hp] at hRv
        rw [hq] at hRw
        unfold valV at hRv hRw ⊢
        have HRv := Lib.hid hRv; have HRw := Lib.hid hRw
        clear hRv hRw hp hq
        go_enter Tryd.func6, Tryd.ntmps6
        go_wp2_with fail
        refine (HAw.out _ (hT.below hb0)).mono ?_
        rintro e x1 ⟨rfl, b1⟩
        have B1 := btV hb0 b1
        have S1 : w.heap.size + 2 ≤ x1.heap.size := by have := b1.size; rw [hsz0] at this; exact this
        have p1 := HX0.out.below (by rw [hsz0]; omega) b1
        have q1 := HX1.out.below (by rw [hsz0]; omega) b1
        have c0 := p1.c0; have c1 := p1.c1; have c2' := p1.c2; have c3 := q1.c0; have c4 := q1.c1; have c5 := q1.c2
        go_wp2_with fail
        refine (HRv.out _).mono ?_
        rintro e x2 ⟨rfl, b2⟩
        have B2 := btV B1 b2
        have S2 := b2.size
        have p2 := p1.below (by omega) b2
        have q2 := q1.below (by omega) b2
        clear c0 c1 c2' c3 c4 c5
        have c0 := q2.c0; have c1 := q2.c1; have c2' := q2.c2
        go_wp2_with fail
        refine (HRw.out _).mono ?_
        rintro e x3 ⟨rfl, b3⟩
        have B3 := btV B2 b3
        have S3 := b3.size
        go_wp2_with fail
        refine (HAw.out _ (hT.below B3)).mono ?_
        rintro e xx ⟨rfl, bx⟩
        go_wp2_with fail
        go_ret
        exact ⟨rfl, btV B3 bx⟩
      | true =>
        have hE : sameV k0 n0 s0 k1 n1 s1 = decide (k0 = k1 ∧ n0 = n1 ∧ s0 = s1) := sameV_iff ..
        have hob := bytes_ord hp hq hA0 hA1 hB0 hB1
        have hbi := fun m hm => begin_iff hp hq hA0 hA1 hB0 hB1 m hm
        have hla1 := bytesR_len k0 n0 s0 (by rcases right_kinds hp with ⟨_, e⟩ | ⟨_, _, e⟩; · rw [e]; decide
                                             · omega)
        have hlb1 := bytesR_len k1 n1 s1 (by rcases right_kinds hq with ⟨_, e⟩ | ⟨_, _, e⟩; · rw [e]; decide
                                             · omega)
        have hea : thingE k0 n0 s0 = 0 := by unfold thingE; rw [hp]; rfl
        have heb : thingE k1 n1 s1 = 0 := by unfold thingE; rw [hq]; rfl
        have hva : ∀ W, Calls Tryd.prog 18 #[valV k0 n0 s0] W (ValBytesPost W k0 n0 s0) := fun W => valBytes_any k0 n0 s0 W hA0 hA1
        have hvb : ∀ W, Calls Tryd.prog 18 #[valV k1 n1 s1] W (ValBytesPost W k1 n1 s1) := fun W => valBytes_any k1 n1 s1 W hB0 hB1
        have hposa := bytesR_pos k0 n0 s0 hp
        have hposb := bytesR_pos k1 n1 s1 hq
        unfold ValBytesPost at hva hvb
        rw [hea] at hva
        rw [heb] at hvb
        rw [bytesR_V hp] at hva hposa hla1
        rw [bytesR_V hq] at hvb hposb hlb1
        have hCm := fun W => valCompare_any k0 n0 s0 k1 n1 s1 W
        have heq := fun W => eq_val k0 n0 s0 k1 n1 s1 W
        rw [hp] at hRv
        rw [hq] at hRw
        generalize hEE : sameV k0 n0 s0 k1 n1 s1 = E at *
        generalize bytesV k0 n0 s0 = ba at *
        generalize bytesV k1 n1 s1 = bb at *
        obtain ⟨SA, hSA⟩ : ∃ S : ByteArray, (⟨ba.toArray⟩ : ByteArray) = S := ⟨_, rfl⟩
        obtain ⟨SB, hSB⟩ : ∃ S : ByteArray, (⟨bb.toArray⟩ : ByteArray) = S := ⟨_, rfl⟩
        have hda : SA.data.toList = ba := by rw [← hSA]
        have hdb : SB.data.toList = bb := by rw [← hSB]
        have hsa : SA.size ≤ 1000000 := by rw [← hSA]; show ba.toArray.size ≤ _; rw [List.size_toArray]; omega
        have hsb : SB.size ≤ 1000000 := by rw [← hSB]; show bb.toArray.size ≤ _; rw [List.size_toArray]; omega
        have hOr := fun W => refOrder_any SA SB W hsa hsb
        rw [hda, hdb, hob] at hOr
        generalize cmpV k0 n0 s0 k1 n1 s1 = X at *
        obtain ⟨la, hla⟩ : ∃ l, ba.length = l := ⟨_, rfl⟩
        obtain ⟨lb, hlb⟩ : ∃ l, bb.length = l := ⟨_, rfl⟩
        obtain ⟨m, hm⟩ : ∃ m, m = min la lb := ⟨_, rfl⟩
        have hpr : ((⟨(ba.take m).toArray⟩ : ByteArray).toList == (⟨(bb.take m).toArray⟩ : ByteArray).toList) = E := by
          rw [str_iff, hE]
          exact decide_eq_decide.2 (hbi m (by rw [hla, hlb]; exact hm))
        obtain ⟨PA, hPA⟩ : ∃ S : ByteArray, (⟨(ba.take m).toArray⟩ : ByteArray) = S := ⟨_, rfl⟩
        obtain ⟨PB, hPB⟩ : ∃ S : ByteArray, (⟨(bb.take m).toArray⟩ : ByteArray) = S := ⟨_, rfl⟩
        rw [hPA, hPB] at hpr
        rw [hla] at hva hposa
        rw [hlb] at hvb hposb
        have hmi : min la lb = m := hm.symm
        have hmi2 : min (la : Int) (lb : Int) = (m : Int) := by omega
        have hm0 : (0 : Int) ≤ (m : Int) := by omega
        have hma : m ≤ la := by omega
        have hmb : m ≤ lb := by omega
        clear hm
        obtain ⟨TX, hTX⟩ : ∃ S : ByteArray, (⟨(text z2).toArray⟩ : ByteArray) = S := ⟨_, rfl⟩
        have hNu := fun W => num_any n0 W
        have hTe := fun W => text_any TX W
        have hP0 := fun W hW => print_any 1 n0 ⟨#[]⟩ W hW hA0 hA1
        have hP1 := fun W hW => print_any 2 0 TX W hW (by decide) (by decide)
        have hD0 := fun W hW => read_any (printR 1 n0 ⟨#[]⟩) W (by have := print_any_size 1 n0 ⟨#[]⟩ hA0 hA1; omega) hW
        have hD1 := fun W hW => read_any (printR 2 0 TX) W (by have := print_any_size 2 0 TX (by decide) (by decide); omega) hW
        have hrn := read_num n0 hA0 hA1
        rw [hrn.1, hrn.2] at hD0
        have hfin : 200 < TX.size ∨ (TX.size ≤ 200 ∧ readV (printR 2 0 TX) = (2, 0, TX) ∧ readE (printR 2 0 TX) = 0) := by
          by_cases h : TX.size ≤ 200
          · right
            have ht := read_text z2 (by rw [hTX]; exact h)
            rw [hTX] at ht
            exact ⟨h, ht⟩
          · exact .inl (by omega)
        generalize printR 1 n0 ⟨#[]⟩ = P0 at *
        generalize printR 2 0 TX = P1 at *
        obtain ⟨⟨vk, vn, vs⟩, hv⟩ : ∃ z, readV P1 = z := ⟨_, rfl⟩
        rw [hv] at hD1 hfin
        generalize readE P1 = ev at *
        have heq1 := fun W => eq_val 1 n0 ⟨#[]⟩ 1 n0 ⟨#[]⟩ W
        have heq2 := fun W => eq_val 2 0 TX 2 0 TX W
        simp only [sameV_self] at heq1 heq2
        clear hE hob hbi hea heb hrn hv hEE hda hdb hsa hsb
        unfold valV at hRv hRw hva hvb hCm heq heq1 heq2 hNu hTe hP0 hP1 hD0 hD1 ⊢
        simp only [] at hD0 hD1
        have HRv := Lib.hid hRv; have HRw := Lib.hid hRw; have HVa := Lib.hid hva; have HVb := Lib.hid hvb; have HCm := Lib.hid hCm; have HOr := Lib.hid hOr; have HNu := Lib.hid hNu; have HTe := Lib.hid hTe; have HP0 := Lib.hid hP0; have HP1 := Lib.hid hP1; have HD0 := Lib.hid hD0; have HD1 := Lib.hid hD1
        clear hRv hRw hva hvb hCm hOr hNu hTe hP0 hP1 hD0 hD1 hp hq
        go_enter Tryd.func6, Tryd.ntmps6
        go_wp2_with fail
        refine (HAw.out _ (hT.below hb0)).mono ?_
        rintro e x1 ⟨rfl, b1⟩
        have B1 := btV hb0 b1
        have S1 : w.heap.size + 2 ≤ x1.heap.size := by have := b1.size; rw [hsz0] at this; exact this
        have p1 := HX0.out.below (by rw [hsz0]; omega) b1
        have q1 := HX1.out.below (by rw [hsz0]; omega) b1
        have c0 := p1.c0; have c1 := p1.c1; have c2' := p1.c2; have c3 := q1.c0; have c4 := q1.c1; have c5 := q1.c2
        go_wp2_with fail
        refine (HRv.out _).mono ?_
        rintro e x2 ⟨rfl, b2⟩
        have B2 := btV B1 b2
        have S2 := b2.size
        have p2 := p1.below (by omega) b2
        have q2 := q1.below (by omega) b2
        clear c0 c1 c2' c3 c4 c5
        have c0 := p2.c0; have c1 := p2.c1; have c2' := p2.c2; have c3 := q2.c0; have c4 := q2.c1; have c5 := q2.c2
        go_wp2_with fail
        refine (HRw.out _).mono ?_
        rintro e x3 ⟨rfl, b3⟩
        have B3 := btV B2 b3
        have S3 := b3.size
        have p3 := p2.below (by omega) b3
        have q3 := q2.below (by omega) b3
        clear c0 c1 c2' c3 c4 c5
        have c0 := p3.c0; have c1 := p3.c1; have c2' := p3.c2; have c3 := q3.c0; have c4 := q3.c1; have c5 := q3.c2
        go_wp2_with fail
        refine (HVa.out _).mono ?_
        rintro e x4 ⟨ya, rfl, r4, b4⟩
        have B4 := btV B3 b4
        have S4 := b4.size
        have p4 := p3.below (by omega) b4
        have q4 := q3.below (by omega) b4
        obtain ⟨g0, cap0, rfl⟩ := URow.form r4 hposa
        clear c0 c1 c2' c3 c4 c5
        have c0 := p4.c0; have c1 := p4.c1; have c2' := p4.c2; have c3 := q4.c0; have c4 := q4.c1; have c5 := q4.c2
        go_wp2_with fail
        refine (HVb.out _).mono ?_
        rintro e x5 ⟨yb, rfl, t5, b5⟩
        have B5 := btV B4 b5
        have S5 := b5.size
        have p5 := p4.below (by omega) b5
        have q5 := q4.below (by omega) b5
        have r5 := r4.below b5
        obtain ⟨g1, cap1, rfl⟩ := URow.form t5 hposb
        have hca := URow.cap r5
        have hcb := URow.cap t5
        have hma' : (m : Int) ≤ (cap0 : Int) := by omega
        have hmb' : (m : Int) ≤ (cap1 : Int) := by omega
        have dd := (Below.refl x5.heap.size x5).drew
        have cr := conv_row r5; have ct := conv_row t5; have crd := conv_row (r5.below dd); have ctd := conv_row (t5.below dd)
        rw [hSA] at cr crd
        rw [hSB] at ct ctd
        have er := conv_take r5 m hma; have et := conv_take t5 m hmb; have erd := conv_take (r5.below dd) m hma; have etd := conv_take (t5.below dd) m hmb
        rw [hPA] at er erd
        rw [hPB] at et etd
        clear c0 c1 c2' c3 c4 c5
        go_wp2_with fail
        go_region_held3 (fun w' => w'.cell? { block := w.heap.size, off := 0 } = some (.int .i64 k0) ∧ w'.cell? { block := w.heap.size, off := 1 } = some (.int .i64 n0) ∧ w'.cell? { block := w.heap.size, off := 2 } = some (.string s0) ∧ w'.cell? { block := w.heap.size + 1, off := 0 } = some (.int .i64 k1) ∧ w'.cell? { block := w.heap.size + 1, off := 1 } = some (.int .i64 n1) ∧ w'.cell? { block := w.heap.size + 1, off := 2 } = some (.string s1) ∧ (convert 36 9 (.slice (some ⟨g0, 0, none⟩) la cap0)).run Tryd.prog w' = .ok (.string SA) w' ∧ (convert 36 9 (.slice (some ⟨g1, 0, none⟩) lb cap1)).run Tryd.prog w' = .ok (.string SB) w' ∧ (convert 36 9 (.slice (some ⟨g0, 0, none⟩) m cap0)).run Tryd.prog w' = .ok (.string PA) w' ∧ (convert 36 9 (.slice (some ⟨g1, 0, none⟩) m cap1)).run Tryd.prog w' = .ok (.string PB) w')
          (first | exact ⟨pZ.c0, pZ.c1, pZ.c2, qZ.c0, qZ.c1, qZ.c2, crZ, ctZ, erZ, etZ⟩ | exact ⟨pY.c0, pY.c1, pY.c2, qY.c0, qY.c1, qY.c2, crY, ctY, erY, etY⟩ | exact ⟨p5.c0, p5.c1, p5.c2, q5.c0, q5.c1, q5.c2, crd, ctd, erd, etd⟩ | exact ⟨p5.c0, p5.c1, p5.c2, q5.c0, q5.c1, q5.c2, cr, ct, er, et⟩ | exact ⟨by assumption, by assumption, by assumption, by assumption, by assumption, by assumption, by assumption, by assumption, by assumption, by assumption⟩)
          ((first
            | (go_at_call 14; refine (HCm.out _).mono ?_; rintro e xZ ⟨rfl, bZ⟩; have BZ := btV BY bZ; have SZ := bZ.size; have pZ := pY.below (by omega) bZ; have qZ := qY.below (by omega) bZ; have rZ := rY.below bZ; have tZ := tY.below bZ; have crZ := conv_row rZ; have ctZ := conv_row tZ; rw [hSA] at crZ; rw [hSB] at ctZ; have erZ := conv_take rZ m hma; have etZ := conv_take tZ m hmb; rw [hPA] at erZ; rw [hPB] at etZ)
            | (go_at_call 20; refine (HOr.out _).mono ?_; rintro e xY ⟨rfl, bY⟩; have dY : Below x5.heap.size x5 xY := dd.trans bY; have BY := btV B5 dY; have SY := dY.size; have pY := p5.below (by omega) dY; have qY := q5.below (by omega) dY; have rY := r5.below dY; have tY := t5.below dY; have crY := conv_row rY; have ctY := conv_row tY; rw [hSA] at crY; rw [hSB] at ctY; have erY := conv_take rY m hma; have etY := conv_take tY m hmb; rw [hPA] at erY; rw [hPB] at etY)))
        clear cr ct crd ctd er et erd etd crY ctY erY etY crZ ctZ erZ etZ
        have c0 := pZ.c0; have c1 := pZ.c1; have c2' := pZ.c2
        go_wp2_with fail
        refine (HNu.out _).mono ?_
        rintro e x6 ⟨rfl, b6⟩
        have B6 := btV BZ b6
        have S6 := b6.size
        have bA : Below x6.heap.size x6 (x6.alloc (.cells #[.int .i64 1, .int .i64 n0, .string ⟨#[]⟩] 23)) := (Below.refl _ _).alloc (Nat.le_refl _) _
        have B6a := btV B6 bA
        have sz6 : (x6.alloc (.cells #[.int .i64 1, .int .i64 n0, .string ⟨#[]⟩] 23)).heap.size = x6.heap.size + 1 := by simp
        have u6 := Box.new x6 1 n0 ⟨#[]⟩
        have hcz := conv_z (HRd.out.below (Nat.le_refl _) B6a) c2
        rw [hTX] at hcz
        clear c0 c1 c2'
        obtain ⟨r0', r1', r2', q0', q1', q2'⟩ := Res.new x6
        go_wp2_with fail
        clear r0' r1' r2' q0' q1' q2' hcz
        refine (HTe.out _).mono ?_
        rintro e x7 ⟨rfl, b7⟩
        have B7 := btV B6a b7
        have S7 := b7.size
        rw [sz6] at S7
        have bC : Below x7.heap.size x7 (x7.alloc (.cells #[.int .i64 2, .int .i64 0, .string TX] 23)) := (Below.refl _ _).alloc (Nat.le_refl _) _
        have B7a := btV B7 bC
        have sz7 : (x7.alloc (.cells #[.int .i64 2, .int .i64 0, .string TX] 23)).heap.size = x7.heap.size + 1 := by simp
        have u7 := (u6.below (by omega) b7).below (by omega) bC
        have v7 := Box.new x7 2 0 TX
        obtain ⟨r0', r1', r2', q0', q1', q2'⟩ := Res.new x7
        have c0 := u7.c0; have c1 := u7.c1; have c2' := u7.c2
        go_wp2_with fail
        clear r0' r1' r2' q0' q1' q2'
        refine (HP0.out _ (hT.below B7a)).mono ?_
        rintro e x8 ⟨rfl, b8⟩
        have B8 := btV B7a b8
        have S8 := b8.size
        rw [sz7] at S8
        have u8 := u7.below (by omega) b8
        have v8 := v7.below (by omega) b8
        clear c0 c1 c2'
        go_wp2_with fail
        refine (HD0.out _ (hT.below B8)).mono ?_
        rintro e x9 ⟨rfl, b9⟩
        have B9 := btV B8 b9
        have S9 := b9.size
        have bD : Below x9.heap.size x9 (x9.alloc (.cells #[.int .i64 1, .int .i64 n0, .string ⟨#[]⟩] 23)) := (Below.refl _ _).alloc (Nat.le_refl _) _
        have B9a := btV B9 bD
        have sz9 : (x9.alloc (.cells #[.int .i64 1, .int .i64 n0, .string ⟨#[]⟩] 23)).heap.size = x9.heap.size + 1 := by simp
        have u9 := (u8.below (by omega) b9).below (by omega) bD
        have v9 := (v8.below (by omega) b9).below (by omega) bD
        have p9 := Box.new x9 1 n0 ⟨#[]⟩
        obtain ⟨r0', r1', r2', q0', q1', q2'⟩ := Res.new x9
        have c0 := v9.c0; have c1 := v9.c1; have c2' := v9.c2
        go_wp2_with fail
        clear r0' r1' r2' q0' q1' q2'
        refine (HP1.out _ (hT.below B9a)).mono ?_
        rintro e x10 ⟨rfl, b10⟩
        have B10 := btV B9a b10
        have S10 := b10.size
        rw [sz9] at S10
        have u10 := u9.below (by omega) b10
        have v10 := v9.below (by omega) b10
        have p10 := p9.below (by omega) b10
        clear c0 c1 c2'
        go_wp2_with fail
        refine (HD1.out _ (hT.below B10)).mono ?_
        rintro e x11 ⟨rfl, b11⟩
        have B11 := btV B10 b11
        have S11 := b11.size
        have bE : Below x11.heap.size x11 (x11.alloc (.cells #[.int .i64 vk, .int .i64 vn, .string vs] 23)) := (Below.refl _ _).alloc (Nat.le_refl _) _
        have B11a := btV B11 bE
        have u11 := (u10.below (by omega) b11).below (by omega) bE
        have v11 := (v10.below (by omega) b11).below (by omega) bE
        have p11 := (p10.below (by omega) b11).below (by omega) bE
        obtain ⟨r0', r1', r2', q0', q1', q2'⟩ := Res.new x11
        have c0 := u11.c0; have c1 := u11.c1; have c2' := u11.c2; have c3 := v11.c0; have c4 := v11.c1; have c5 := v11.c2; have c6 := p11.c0; have c7 := p11.c1; have c8 := p11.c2
        rcases hfin with hf | ⟨hf, hf2, rfl⟩
        · go_wp2_with fail
          go_ret
          exact ⟨rfl, B11a⟩
        · simp only [Prod.mk.injEq] at hf2
          obtain ⟨rfl, rfl, rfl⟩ := hf2
          go_wp2_with fail
          go_ret
          exact ⟨rfl, B11a⟩

set_option maxRecDepth 100000 in
theorem lifted (os : Os) (started : os.Started) (H : Type) (enc : TypeId × Value → H) :
    ReturnsInHanded {} Tryd.checked os 6 .any (fun w args => (Rows.valueOrdersSpec.pre enc Tryd.prog Tryd.f6 [] false w args ∧ laidMetH Tryd.prog Rows.valueOrdersRow.laid w) ∧ sizedMet enc Tryd.prog Tryd.f6 (OpenSpec.ofChange Rows.valueOrdersSpec) false w args) (Rows.valueOrdersSpec.post enc Tryd.prog Tryd.f6 false true false false) := by
  refine returnsInHanded_of_change_and (C := Tryd.checked) (X := fun w _ => laidMetH Tryd.prog Rows.valueOrdersRow.laid w) (fun _ _ _ hh h => h.of_heap hh) own started (by kernel_rfl) Tryd.func6
    (ChangeSpec.witness_shaped (enc := enc) (C := Tryd.checked) (os := os) (X := fun w _ => laidMetH Tryd.prog Rows.valueOrdersRow.laid w) false (World.laidAll Tryd.prog os Rows.valueOrdersRow.laid) #[.agg #[.int .i64 0, .int .i64 0, .string ByteArray.empty], .agg #[.int .i64 0, .int .i64 0, .string ByteArray.empty], .slice none 0 0] 8 (World.laidAll_os _ _ _)
      (World.shaped_of_ZipB (by kernel_rfl) (by kernel_rfl)) (by kernel_rfl) (by kernel_rfl) (by kernel_rfl)
      (by rw [MakeChecks.laidMetH_plain _ _ _ (by kernel_rfl)]; exact laidMet_laidAll _ (by kernel_rfl) (by kernel_rfl))) ?_
  intro W base args ds gs before hval0 hW _ _ hL _
  have hval : ∀ (j : Nat) t v, Tryd.f6.params[j]? = some t → args[j]? = some v → Value.okWide Tryd.prog W .any base t v := hval0
  have hW' := hW
  obtain ⟨p, q, hA0, hV, rfl, hfz, hnd⟩ := hW
  have hA : DataW.TrodAll enc Tryd.prog W 0 (fun _ => true) true Tryd.f6.params.toList args.toList ds p := hA0
  rw [Tryd.params6] at hA hval
  obtain ⟨v0, vs0, d0, ds0, p0, q0, hargs, rfl, rfl, h0, r0⟩ := trodAll_cons hA
  obtain ⟨v1, vs1, d1, ds1, p1, q1, rfl, rfl, rfl, h1, r1⟩ := trodAll_cons r0
  obtain ⟨v2, vs2, d2, ds2, p2, q2, rfl, rfl, rfl, h2, r2⟩ := trodAll_cons r1
  obtain ⟨rfl, rfl, rfl⟩ := trodAll_nil r2
  obtain rfl : args = #[v0, v1, v2] := by cases args; simp_all
  obtain ⟨rfl, rfl⟩ := trodVars_none hV
  have tv0 := h0
  obtain ⟨k0, n0, s0, rfl, rfl, w0⟩ := open_val (hval 0 23 v0 rfl rfl) h0
  have tv1 := h1
  obtain ⟨k1, n1, s1, rfl, rfl, w1⟩ := open_val (hval 1 23 v1 rfl rfl) h1
  obtain ⟨a2, l2, c2, rfl⟩ := okWide_slice Tryd.underlying45 (hval 2 45 v2 rfl rfl)
  have k2 := h2
  have lt2 : ∀ x ∈ p2, x.block < W.heap.size := by obtain ⟨m, hm⟩ := k2; exact DataW.trod_lt m _ _ _ hm
  obtain ⟨z2, w2⟩ : ∃ zs, Slc W a2 l2 c2 zs := by
    obtain ⟨fuel, hf⟩ := h2
    rcases open_ints Tryd.underlying45 Tryd.underlying21 (by kernel_rfl) hf with ⟨hcs, _⟩ | ⟨x, l, c, zs, hcs, _, hl, hm, hz, _, hcell, hwz⟩
    · simp [Value.cells] at hcs
      obtain ⟨rfl, rfl, rfl⟩ := hcs
      exact ⟨[], Slc.none_ W⟩
    · simp [Value.cells] at hcs
      obtain ⟨rfl, rfl, rfl⟩ := hcs
      exact ⟨_, Slc.some_ hl hm (by simpa using hz) hcell hwz⟩
  clear hA0 hval0
  rw [MakeChecks.laidMetH_plain _ _ _ (by kernel_rfl)] at hL
  have hT : Std W := std_of_laid hL
  refine (walk k0 n0 s0 k1 n1 s1 a2 l2 c2 z2 w0 w1 W w2 hT).mono fun e W' ⟨he, bel⟩ => ?_
  subst he
  exact ⟨_, rfl, _, _, _, [], _, [], hW', trodAll_mk1 (shut_bool Tryd.underlying4 _), (trodAll_cons_mk (Below.trod laidOut (by kernel_rfl) (of_decide_eq_true (by kernel_rfl)) tv0 bel (fun _ hx => by cases hx)) (trodAll_cons_mk (Below.trod laidOut (by kernel_rfl) (of_decide_eq_true (by kernel_rfl)) tv1 bel (fun _ hx => by cases hx)) (trodAll_cons_mk (Below.trod laidOut (by kernel_rfl) (of_decide_eq_true (by kernel_rfl)) k2 bel lt2) trodAll_mk0))), rfl, bel.frame _, fun h => by cases h⟩

theorem over : Rows.valueOrdersRow.holds Tryd.pinned (OpenSpec.ofChange Rows.valueOrdersSpec) :=
  OpenClaim.holds_of_wide 6 Tryd.f6 rfl rfl rfl rfl rfl rfl rfl ⟨rfl, rfl, rfl, rfl, rfl⟩ rfl rfl rfl rfl rfl (by kernel_rfl) Tryd.func6 (by kernel_rfl)
    (of_decide_eq_true (by kernel_rfl)) (by unfold Func.isWrapper; first | (rw [if_pos (by decide +kernel)]; kernel_rfl) | (rw [if_neg (by decide +kernel)]; exact ⟨rfl, rfl⟩))
    (fun os started H enc _ => lifted os started H enc)
theorem proved : Rows.ValueOrdersCardSaid :=
  Claim7.holds_tied_plain_at .later [] [.data, .data, .data, .data, .sentinel, .sentinel, .pinned] true _ true
    over (fun _ h => by cases h) (by kernel_rfl) (fun _ h => by cases h) valueOrders_row_tie rfl ⟨rfl, rfl⟩ (by kernel_rfl) rfl
    (fun f fn hf hfn => by
      obtain rfl : f = 6 := Option.some.inj ((show Tryd.prog.funcNamed "cobweb/cobweblaw02.ValueOrders" = some 6 by kernel_rfl).symm.trans hf) |>.symm
      obtain rfl : fn = Tryd.f6 := (Option.some.inj (Tryd.func6.symm.trans hfn)).symm
      exact ⟨by kernel_rfl, fun j t ht => by
        rw [Tryd.params6] at ht
        have hm : t ∈ [23, 23, 45] := by simpa using Array.mem_of_getElem? ht
        have hall : ([23, 23, 45].all fun u => !Tryd.prog.wantsStandIn u) = true := by kernel_rfl
        exact (show Tryd.prog.wantsStandIn t = false by simpa using List.all_eq_true.1 hall t hm)⟩)
    (by kernel_rfl)
end Go.Proofs.YtkimibppfniejaaDoor.valueOrders
