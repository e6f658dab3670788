/- Values' bytes are the document's, and are read as the value, whatever stands behind them. -/
import Derived.Test.YtkimibppfniejaaDoorDoorV
import Derived.Test.YtkimibppfniejaaDoorPost
import Derived.Test.YtkimibppfniejaaDoorOpenW
import Derived.Test.YtkimibppfniejaaDoorValLaws
import Derived.Test.YtkimibppfniejaaDoorValRow
import Derived.Test.YtkimibppfniejaaDoorValEq
namespace Go.Proofs.YtkimibppfniejaaDoor.valueTakes
open Go.ChangeShapes Go.WideShapes Go.ChangeAt Go.RowKit
open Go.ChangeMaps (open_string shut_string)
set_option linter.unusedVariables false

set_option maxHeartbeats 4000000 in
set_option maxRecDepth 100000 in
theorem walk (k0 n0 : Int) (s0 : ByteArray) (a1 : Option Addr) (l1 c1 : Nat) (z1 : List UInt8) (w0 : ValIn k0 n0 s0) (w : World) (w1 : SlcB w a1 l1 c1 z1) (hT : Std w) :
    Calls Tryd.prog 5 #[valV k0 n0 s0, .slice a1 l1 c1] w fun e w' => e = .returned (.bool true) ∧ Below w.heap.size w w' := by
  obtain ⟨hzl, hlc, hrd⟩ := w1
  subst hzl
  obtain ⟨i0, hi, hz0, hz1, hz2⟩ := info_parts byte_infoV
  have HAw := Lib.hid (awake_any)
  have HB0 := Lib.hid (Box.new w k0 n0 s0)
  have hb0 : Below w.heap.size w (w.alloc (.cells #[.int .i64 k0, .int .i64 n0, .string s0] 23)) := (Below.refl _ _).alloc (Nat.le_refl _) _
  have hsz0 : (w.alloc (.cells #[.int .i64 k0, .int .i64 n0, .string s0] 23)).heap.size = w.heap.size + 1 := by simp
  have HRd := Lib.hid hrd
  clear hrd
  have hn0 := w0.2.1.1
  have hn1 := w0.2.1.2
  clear w0
  unfold valV
  by_cases hbig : 1000 < z1.length ∨ 1000 < s0.size
  · have hsp : 1000 < z1.length ∨ (z1.length ≤ 1000 ∧ 1000 < s0.size) := by omega
    clear hbig
    rcases hsp with h | ⟨h, h'⟩
    all_goals
      go_enter Tryd.func5, Tryd.ntmps5
      go_wp2_with fail
      refine (HAw.out _ (hT.below hb0)).mono ?_
      rintro e x1 ⟨rfl, b1⟩
      have B1 := btV hb0 b1
      have S1 : w.heap.size + 1 ≤ x1.heap.size := by have := b1.size; rw [hsz0] at this; exact this
      have a0 := HB0.out.below (by rw [hsz0]; omega) b1
      have c0 := a0.c0; have c1' := a0.c1; have c2 := a0.c2
      go_wp2_with fail
      refine (HAw.out _ (hT.below B1)).mono ?_
      rintro e x2 ⟨rfl, b2⟩
      go_wp2_with fail
      go_ret
      exact ⟨rfl, btV B1 b2⟩
  · have hzL : z1.length ≤ 1000 := by omega
    have hsL : s0.size ≤ 1000 := by omega
    clear hbig
    have hbl := bytesR_len k0 n0 s0 hsL
    obtain ⟨vk, vn, vs, m, e0, htk⟩ := takeV_form z1
    have HRr := Lib.hid (fun W => refRightV_any k0 n0 s0 W)
    have HRb := Lib.hid (fun W => refBytes_any k0 n0 s0 W hn0 hn1 (by omega))
    have hne := fun W => neq_val vk vn vs vk vn vs W
    have heq := fun W => eq_val k0 n0 s0 k0 n0 s0 W
    simp only [sameV_self, Bool.not_true] at hne heq
    cases hr : rightV k0 n0 s0 with
    | true =>
      cases a1 with
      | none =>
        obtain rfl := HRd.out.none_nil
        have hpos := bytesR_pos k0 n0 s0 hr
        have hbr : bytesR k0 n0 s0 = bytesV k0 n0 s0 := by unfold bytesR; rw [hr]; rfl
        have hte : thingE k0 n0 s0 = 0 := by unfold thingE; rw [hr]; rfl
        have htb := takeV_bytes k0 n0 s0 [] hr hn0 hn1
        rw [List.append_nil] at htb
        unfold valV at hne heq htk htb HRr HRb
        unfold BytesPost at HRb
        have hvp : ∀ W, Calls Tryd.prog 18 #[.agg #[.int .i64 k0, .int .i64 n0, .string s0]] W (ValBytesPost W k0 n0 s0) := fun W => valBytes_any k0 n0 s0 W hn0 hn1
        unfold ValBytesPost at hvp
        rw [hbr] at hvp hpos hbl htb
        rw [hte] at hvp
        rw [hr] at HRr
        generalize bytesV k0 n0 s0 = bs at *
        obtain ⟨S, hS⟩ : ∃ S : ByteArray, (⟨bs.toArray⟩ : ByteArray) = S := ⟨_, rfl⟩
        have hq : (S.toList == S.toList) = true := str_same rfl
        have HVp := Lib.hid hvp
        clear hvp hbr hte hr
        go_enter Tryd.func5, Tryd.ntmps5
        go_wp2_with fail
        refine (HAw.out _ (hT.below hb0)).mono ?_
        rintro e x1 ⟨rfl, b1⟩
        have B1 := btV hb0 b1
        have S1 : w.heap.size + 1 ≤ x1.heap.size := by have := b1.size; rw [hsz0] at this; exact this
        have a0 := HB0.out.below (by rw [hsz0]; omega) b1
        have c0 := a0.c0; have c1' := a0.c1; have c2 := a0.c2
        have hn1' := append_nilB (lit0 x1) c1
        have hTk := take_row (lit0 x1) (by simp)
        have htk0 : takeV [] = .tuple #[.agg #[.int .i64 vk, .int .i64 vn, .string vs], .int .i64 m, .int .i64 e0] := htk
        rw [htk0] at hTk
        have HTk := Lib.hid hTk
        have d4 : Below x1.heap.size x1 (x1.alloc (.cells #[] 5)) := (Below.refl x1.heap.size x1).alloc (Nat.le_refl _) _
        clear hTk htk0
        go_wp2_with fail
        refine HTk.out.mono ?_
        rintro e x2 ⟨rfl, b2⟩
        have D2 : Below x1.heap.size x1 x2 := btV d4 b2
        have B2 := btV B1 D2
        have S2 := D2.size
        have B2a : Below w.heap.size w (x2.alloc (.cells #[.int .i64 vk, .int .i64 vn, .string vs] 23)) := B2.alloc B2.size _
        have hRt := refTake_any none c1 [] (x2.alloc (.cells #[.int .i64 vk, .int .i64 vn, .string vs] 23)) (HRd.out.below (Nat.le_refl _) B2a) (by first | exact hlc | simp) (by first | omega | simp)
        rw [htk] at hRt
        have HRt := Lib.hid hRt
        clear hRt
        have f5 := BoxF.new x2 vk vn vs
        have sz2 : (x2.alloc (.cells #[.int .i64 vk, .int .i64 vn, .string vs] 23)).heap.size = x2.heap.size + 1 := by simp
        clear c0 c1' c2
        obtain ⟨r0, r1, r2, q0, q1, q2⟩ := Res.new x2
        go_wp2_with fail
        clear r0 r1 r2 q0 q1 q2
        refine HRt.out.mono ?_
        rintro e x3 ⟨rfl, b3⟩
        have S3 := b3.size
        rw [sz2] at S3
        have f5' := f5.below (by rw [sz2]; omega) b3
        have d3 : Below x1.heap.size x1 (x3.alloc (.cells #[.int .i64 vk, .int .i64 vn, .string vs] 23)) := (btV (D2.alloc D2.size _) b3).alloc (by omega) _
        have f5'' : BoxF (x3.alloc (.cells #[.int .i64 vk, .int .i64 vn, .string vs] 23)) x2.heap.size vk vn vs := f5'.block (Lib.alloc_old _ _ _ (by omega))
        have a3 : Box (x3.alloc (.cells #[.int .i64 vk, .int .i64 vn, .string vs] 23)) w.heap.size k0 n0 s0 := a0.below (by omega) d3
        have B3 : Below w.heap.size w (x3.alloc (.cells #[.int .i64 vk, .int .i64 vn, .string vs] 23)) := btV B1 d3
        have sz3 : (x3.alloc (.cells #[.int .i64 vk, .int .i64 vn, .string vs] 23)).heap.size = x3.heap.size + 1 := by simp
        clear f5 f5'
        have o0 := f5''.c0; have o1 := f5''.c1; have o2 := f5''.c2
        have c0 := a3.c0; have c1' := a3.c1; have c2 := a3.c2
        obtain ⟨r0, r1, r2, q0, q1, q2⟩ := Res.new x3
        skip
        go_wp2_with fail
        clear r0 r1 r2 q0 q1 q2
        refine (HVp.out _).mono ?_
        rintro e x4 ⟨vc, rfl, hv4, b4⟩
        have S4 := b4.size
        rw [sz3] at S4
        have B4 := btV B3 b4
        have f6 := f5''.below (by omega) b4
        have a4 := a3.below (by omega) b4
        clear o0 o1 o2 c0 c1' c2
        have c0 := a4.c0; have c1' := a4.c1; have c2 := a4.c2
        obtain ⟨g, cap, rfl⟩ := URow.form hv4 hpos
        go_wp2_with fail
        refine (HRr.out _).mono ?_
        rintro e x5 ⟨rfl, b5⟩
        have S5 := b5.size
        have B5 := btV B4 b5
        have a5 := a4.below (by omega) b5
        have f7 := f6.below (by omega) b5
        have hv5 := hv4.below b5
        have cv5 := conv_row hv5
        have cv5d := conv_row (hv5.below ((Below.refl x5.heap.size x5).drew))
        rw [hS] at cv5 cv5d
        clear c0 c1' c2
        have c0 := a5.c0; have c1' := a5.c1; have c2 := a5.c2
        go_wp2_with fail
        go_region_with (go_at_call 19; refine (HRb.out _).mono ?_; rintro e x6 ⟨v2, he2, hv2, b6⟩; obtain ⟨g2, k2, rfl⟩ := URow.form hv2 hpos; subst he2; have d6 : Below x5.heap.size x5 x6 := ((Below.refl x5.heap.size x5).drew).trans b6; have a6 := a5.below (by omega) d6; have hv6 := hv5.below d6; have cv6 := conv_row hv6; rw [hS] at cv6; have cw6 := conv_row hv2; rw [hS] at cw6)
        all_goals
          have S6 := d6.size
          have B6 := btV B5 d6
          have f8 := f7.below (by omega) d6
          clear c0 c1' c2 cv5 cv5d cv6 cw6
          go_wp2_with (at_builtin; refine wpList_append_own _ rfl _ _ 36 rfl x6.heap.size 5 i0 (.int .u8 0) 1 1 Tryd.underlying36 hi hz0 hz1 hz2 rfl (by decide) _ 0 [] rfl (lit0 x6) ⟨g, 0, none⟩ bs.length cap (bs.map u8v) rfl ?l3 ?a3 ?b3 ?c3 ?d3 ?e3 ?_)
          try (case l3 => rw [List.length_map, Nat.mul_one])
          try (case a3 => exact (hv6.below ((Below.refl x6.heap.size x6).alloc (Nat.le_refl _) (.cells #[] 5))).cell)
          try (case b3 => exact u8v_one _)
          try (case c3 => unfold maxLen; omega)
          try (case d3 => omega)
          try (case e3 => simp)
          intro v7 w7 hown7 hgrow7 _
          have hr7 : URow w7 x6.heap.size v7 bs.length bs := by unfold URow; simpa using hown7
          have d7 : Below x6.heap.size x6 w7 := ((Below.refl x6.heap.size x6).alloc (Nat.le_refl _) _).grown hgrow7 (by simp) (fun k' hk' => (World.ownsRow.lt (lit0 x6) k' hk').1)
          clear hown7 hgrow7
          have S7 := d7.size
          obtain ⟨g7, cap7, rfl⟩ := URow.form hr7 hpos
          have hcap7 := URow.cap hr7
          have d8 := d7
          have hTk := take_row hr7 (by omega)
          rw [htb] at hTk
          have HTk := Lib.hid hTk
          clear hTk
          have S8 := d8.size
          go_wp2_with fail
          refine HTk.out.mono ?_
          rintro e x9 ⟨rfl, b9⟩
          have d9 : Below x6.heap.size x6 x9 := btV d8 b9
          have f9 := f8.below (by omega) d9
          have a9 := a6.below (by omega) d9
          have B9 := btV B6 d9
          have g9 := f9.set k0 n0 s0
          have g8 := a9.set_other (N := x2.heap.size) (by omega) k0 n0 s0
          have hB9 := below_set3 (N := x2.heap.size) B9 (by omega) k0 n0 s0
          have p0 := f9.c0; have p1 := f9.c1; have p2 := f9.c2; have p3 := f9.f0; have p4 := f9.f1; have p5 := f9.f2
          have t0 := g9.c0; have t1 := g9.c1; have t2 := g9.c2
          have u0 := g8.c0; have u1 := g8.c1; have u2 := g8.c2
          go_wp2_with fail
          go_ret
          exact ⟨rfl, hB9⟩
      | some x =>
        have hpos := bytesR_pos k0 n0 s0 hr
        have hbr : bytesR k0 n0 s0 = bytesV k0 n0 s0 := by unfold bytesR; rw [hr]; rfl
        have hte : thingE k0 n0 s0 = 0 := by unfold thingE; rw [hr]; rfl
        have htb := takeV_bytes k0 n0 s0 z1 hr hn0 hn1
        unfold valV at hne heq htk htb HRr HRb
        unfold BytesPost at HRb
        have hvp : ∀ W, Calls Tryd.prog 18 #[.agg #[.int .i64 k0, .int .i64 n0, .string s0]] W (ValBytesPost W k0 n0 s0) := fun W => valBytes_any k0 n0 s0 W hn0 hn1
        unfold ValBytesPost at hvp
        rw [hbr] at hvp hpos hbl htb
        rw [hte] at hvp
        rw [hr] at HRr
        generalize bytesV k0 n0 s0 = bs at *
        obtain ⟨S, hS⟩ : ∃ S : ByteArray, (⟨bs.toArray⟩ : ByteArray) = S := ⟨_, rfl⟩
        have hq : (S.toList == S.toList) = true := str_same rfl
        have HVp := Lib.hid hvp
        clear hvp hbr hte hr
        go_enter Tryd.func5, Tryd.ntmps5
        go_wp2_with fail
        refine (HAw.out _ (hT.below hb0)).mono ?_
        rintro e x1 ⟨rfl, b1⟩
        have B1 := btV hb0 b1
        have S1 : w.heap.size + 1 ≤ x1.heap.size := by have := b1.size; rw [hsz0] at this; exact this
        have a0 := HB0.out.below (by rw [hsz0]; omega) b1
        have c0 := a0.c0; have c1' := a0.c1; have c2 := a0.c2
        go_wp2_with (at_builtin; refine wpList_append_own _ rfl _ _ 36 rfl x1.heap.size 5 i0 (.int .u8 0) 1 1 Tryd.underlying36 hi hz0 hz1 hz2 rfl (by decide) _ 0 [] rfl (lit0 x1) x z1.length c1 (z1.map u8v) rfl ?l1 ?a1 ?b1 ?c1 ?d1 ?e1 ?_)
        try (case l1 => rw [List.length_map, Nat.mul_one])
        try (case a1 => exact (RdB.below HRd.out (Nat.le_refl _) (B1.alloc B1.size _)).news)
        try (case b1 => exact u8v_one _)
        try (case c1 => unfold maxLen; omega)
        try (case d1 => omega)
        try (case e1 => simp)
        intro v4 w4 hown4 hgrow4 _
        have hr4 : URow w4 x1.heap.size v4 z1.length z1 := by unfold URow; simpa using hown4
        have d4 : Below x1.heap.size x1 w4 := ((Below.refl x1.heap.size x1).alloc (Nat.le_refl _) _).grown hgrow4 (by simp) (fun k' hk' => (World.ownsRow.lt (lit0 x1) k' hk').1)
        have hTk := take_row hr4 (by omega)
        rw [htk] at hTk
        have HTk := Lib.hid hTk
        clear hTk hown4 hgrow4
        go_wp2_with fail
        refine HTk.out.mono ?_
        rintro e x2 ⟨rfl, b2⟩
        have D2 : Below x1.heap.size x1 x2 := btV d4 b2
        have B2 := btV B1 D2
        have S2 := D2.size
        have B2a : Below w.heap.size w (x2.alloc (.cells #[.int .i64 vk, .int .i64 vn, .string vs] 23)) := B2.alloc B2.size _
        have hRt := refTake_any (some x) c1 z1 (x2.alloc (.cells #[.int .i64 vk, .int .i64 vn, .string vs] 23)) (HRd.out.below (Nat.le_refl _) B2a) (by first | exact hlc | simp) (by first | omega | simp)
        rw [htk] at hRt
        have HRt := Lib.hid hRt
        clear hRt
        have f5 := BoxF.new x2 vk vn vs
        have sz2 : (x2.alloc (.cells #[.int .i64 vk, .int .i64 vn, .string vs] 23)).heap.size = x2.heap.size + 1 := by simp
        clear c0 c1' c2
        obtain ⟨r0, r1, r2, q0, q1, q2⟩ := Res.new x2
        go_wp2_with fail
        clear r0 r1 r2 q0 q1 q2
        refine HRt.out.mono ?_
        rintro e x3 ⟨rfl, b3⟩
        have S3 := b3.size
        rw [sz2] at S3
        have f5' := f5.below (by rw [sz2]; omega) b3
        have d3 : Below x1.heap.size x1 (x3.alloc (.cells #[.int .i64 vk, .int .i64 vn, .string vs] 23)) := (btV (D2.alloc D2.size _) b3).alloc (by omega) _
        have f5'' : BoxF (x3.alloc (.cells #[.int .i64 vk, .int .i64 vn, .string vs] 23)) x2.heap.size vk vn vs := f5'.block (Lib.alloc_old _ _ _ (by omega))
        have a3 : Box (x3.alloc (.cells #[.int .i64 vk, .int .i64 vn, .string vs] 23)) w.heap.size k0 n0 s0 := a0.below (by omega) d3
        have B3 : Below w.heap.size w (x3.alloc (.cells #[.int .i64 vk, .int .i64 vn, .string vs] 23)) := btV B1 d3
        have sz3 : (x3.alloc (.cells #[.int .i64 vk, .int .i64 vn, .string vs] 23)).heap.size = x3.heap.size + 1 := by simp
        clear f5 f5'
        have o0 := f5''.c0; have o1 := f5''.c1; have o2 := f5''.c2
        have c0 := a3.c0; have c1' := a3.c1; have c2 := a3.c2
        obtain ⟨r0, r1, r2, q0, q1, q2⟩ := Res.new x3
        skip
        go_wp2_with fail
        clear r0 r1 r2 q0 q1 q2
        refine (HVp.out _).mono ?_
        rintro e x4 ⟨vc, rfl, hv4, b4⟩
        have S4 := b4.size
        rw [sz3] at S4
        have B4 := btV B3 b4
        have f6 := f5''.below (by omega) b4
        have a4 := a3.below (by omega) b4
        clear o0 o1 o2 c0 c1' c2
        have c0 := a4.c0; have c1' := a4.c1; have c2 := a4.c2
        obtain ⟨g, cap, rfl⟩ := URow.form hv4 hpos
        go_wp2_with fail
        refine (HRr.out _).mono ?_
        rintro e x5 ⟨rfl, b5⟩
        have S5 := b5.size
        have B5 := btV B4 b5
        have a5 := a4.below (by omega) b5
        have f7 := f6.below (by omega) b5
        have hv5 := hv4.below b5
        have cv5 := conv_row hv5
        have cv5d := conv_row (hv5.below ((Below.refl x5.heap.size x5).drew))
        rw [hS] at cv5 cv5d
        clear c0 c1' c2
        have c0 := a5.c0; have c1' := a5.c1; have c2 := a5.c2
        go_wp2_with fail
        go_region_with (go_at_call 19; refine (HRb.out _).mono ?_; rintro e x6 ⟨v2, he2, hv2, b6⟩; obtain ⟨g2, k2, rfl⟩ := URow.form hv2 hpos; subst he2; have d6 : Below x5.heap.size x5 x6 := ((Below.refl x5.heap.size x5).drew).trans b6; have a6 := a5.below (by omega) d6; have hv6 := hv5.below d6; have cv6 := conv_row hv6; rw [hS] at cv6; have cw6 := conv_row hv2; rw [hS] at cw6)
        all_goals
          have S6 := d6.size
          have B6 := btV B5 d6
          have f8 := f7.below (by omega) d6
          clear c0 c1' c2 cv5 cv5d cv6 cw6
          go_wp2_with (at_builtin; refine wpList_append_own _ rfl _ _ 36 rfl x6.heap.size 5 i0 (.int .u8 0) 1 1 Tryd.underlying36 hi hz0 hz1 hz2 rfl (by decide) _ 0 [] rfl (lit0 x6) ⟨g, 0, none⟩ bs.length cap (bs.map u8v) rfl ?l3 ?a3 ?b3 ?c3 ?d3 ?e3 ?_)
          try (case l3 => rw [List.length_map, Nat.mul_one])
          try (case a3 => exact (hv6.below ((Below.refl x6.heap.size x6).alloc (Nat.le_refl _) (.cells #[] 5))).cell)
          try (case b3 => exact u8v_one _)
          try (case c3 => unfold maxLen; omega)
          try (case d3 => omega)
          try (case e3 => simp)
          intro v7 w7 hown7 hgrow7 _
          have hr7 : URow w7 x6.heap.size v7 bs.length bs := by unfold URow; simpa using hown7
          have d7 : Below x6.heap.size x6 w7 := ((Below.refl x6.heap.size x6).alloc (Nat.le_refl _) _).grown hgrow7 (by simp) (fun k' hk' => (World.ownsRow.lt (lit0 x6) k' hk').1)
          clear hown7 hgrow7
          have S7 := d7.size
          go_wp2_with (at_builtin; refine wpList_append_own _ rfl _ _ 36 rfl x6.heap.size 5 i0 (.int .u8 0) 1 1 Tryd.underlying36 hi hz0 hz1 hz2 rfl (by decide) _ bs.length (bs.map u8v) rfl (hr7) x z1.length c1 (z1.map u8v) rfl ?l4 ?a4 ?b4 ?c4 ?d4 ?e4 ?_)
          try (case l4 => rw [List.length_map, Nat.mul_one])
          try (case a4 => exact (RdB.below HRd.out (Nat.le_refl _) (btV B6 d7)).news)
          try (case b4 => exact u8v_one _)
          try (case c4 => unfold maxLen; omega)
          try (case d4 => omega)
          try (case e4 => omega)
          intro v8 w8 hown8 hgrow8 _
          have hr8 : URow w8 x6.heap.size v8 (bs ++ z1).length (bs ++ z1) := by unfold URow; rw [List.length_append, List.map_append]; exact hown8
          have d8 : Below x6.heap.size x6 w8 := d7.grown hgrow8 (by omega) (fun k' hk' => (World.ownsRow.lt hr7 k' hk').1)
          have hTk := take_row hr8 (by rw [List.length_append]; omega)
          rw [htb] at hTk
          have HTk := Lib.hid hTk
          clear hTk hown8 hgrow8
          have S8 := d8.size
          go_wp2_with fail
          refine HTk.out.mono ?_
          rintro e x9 ⟨rfl, b9⟩
          have d9 : Below x6.heap.size x6 x9 := btV d8 b9
          have f9 := f8.below (by omega) d9
          have a9 := a6.below (by omega) d9
          have B9 := btV B6 d9
          have g9 := f9.set k0 n0 s0
          have g8 := a9.set_other (N := x2.heap.size) (by omega) k0 n0 s0
          have hB9 := below_set3 (N := x2.heap.size) B9 (by omega) k0 n0 s0
          have p0 := f9.c0; have p1 := f9.c1; have p2 := f9.c2; have p3 := f9.f0; have p4 := f9.f1; have p5 := f9.f2
          have t0 := g9.c0; have t1 := g9.c1; have t2 := g9.c2
          have u0 := g8.c0; have u1 := g8.c1; have u2 := g8.c2
          go_wp2_with fail
          go_ret
          exact ⟨rfl, hB9⟩
    | false =>
      cases a1 with
      | none =>
        obtain rfl := HRd.out.none_nil
        have hbr : bytesR k0 n0 s0 = [] := by unfold bytesR; rw [hr]; rfl
        have hte : thingE k0 n0 s0 = 22 := by unfold thingE; rw [hr]; rfl
        unfold valV at hne heq htk HRr
        have hvp : ∀ W, Calls Tryd.prog 18 #[.agg #[.int .i64 k0, .int .i64 n0, .string s0]] W (ValBytesPost W k0 n0 s0) := fun W => valBytes_any k0 n0 s0 W hn0 hn1
        unfold ValBytesPost at hvp
        rw [hbr] at hvp
        rw [hte] at hvp
        rw [hr] at HRr
        have HVp := Lib.hid hvp
        clear hvp hbr hte hr HRb
        go_enter Tryd.func5, Tryd.ntmps5
        go_wp2_with fail
        refine (HAw.out _ (hT.below hb0)).mono ?_
        rintro e x1 ⟨rfl, b1⟩
        have B1 := btV hb0 b1
        have S1 : w.heap.size + 1 ≤ x1.heap.size := by have := b1.size; rw [hsz0] at this; exact this
        have a0 := HB0.out.below (by rw [hsz0]; omega) b1
        have c0 := a0.c0; have c1' := a0.c1; have c2 := a0.c2
        have hn1' := append_nilB (lit0 x1) c1
        have hTk := take_row (lit0 x1) (by simp)
        have htk0 : takeV [] = .tuple #[.agg #[.int .i64 vk, .int .i64 vn, .string vs], .int .i64 m, .int .i64 e0] := htk
        rw [htk0] at hTk
        have HTk := Lib.hid hTk
        have d4 : Below x1.heap.size x1 (x1.alloc (.cells #[] 5)) := (Below.refl x1.heap.size x1).alloc (Nat.le_refl _) _
        clear hTk htk0
        go_wp2_with fail
        refine HTk.out.mono ?_
        rintro e x2 ⟨rfl, b2⟩
        have D2 : Below x1.heap.size x1 x2 := btV d4 b2
        have B2 := btV B1 D2
        have S2 := D2.size
        have B2a : Below w.heap.size w (x2.alloc (.cells #[.int .i64 vk, .int .i64 vn, .string vs] 23)) := B2.alloc B2.size _
        have hRt := refTake_any none c1 [] (x2.alloc (.cells #[.int .i64 vk, .int .i64 vn, .string vs] 23)) (HRd.out.below (Nat.le_refl _) B2a) (by first | exact hlc | simp) (by first | omega | simp)
        rw [htk] at hRt
        have HRt := Lib.hid hRt
        clear hRt
        have f5 := BoxF.new x2 vk vn vs
        have sz2 : (x2.alloc (.cells #[.int .i64 vk, .int .i64 vn, .string vs] 23)).heap.size = x2.heap.size + 1 := by simp
        clear c0 c1' c2
        obtain ⟨r0, r1, r2, q0, q1, q2⟩ := Res.new x2
        go_wp2_with fail
        clear r0 r1 r2 q0 q1 q2
        refine HRt.out.mono ?_
        rintro e x3 ⟨rfl, b3⟩
        have S3 := b3.size
        rw [sz2] at S3
        have f5' := f5.below (by rw [sz2]; omega) b3
        have d3 : Below x1.heap.size x1 (x3.alloc (.cells #[.int .i64 vk, .int .i64 vn, .string vs] 23)) := (btV (D2.alloc D2.size _) b3).alloc (by omega) _
        have f5'' : BoxF (x3.alloc (.cells #[.int .i64 vk, .int .i64 vn, .string vs] 23)) x2.heap.size vk vn vs := f5'.block (Lib.alloc_old _ _ _ (by omega))
        have a3 : Box (x3.alloc (.cells #[.int .i64 vk, .int .i64 vn, .string vs] 23)) w.heap.size k0 n0 s0 := a0.below (by omega) d3
        have B3 : Below w.heap.size w (x3.alloc (.cells #[.int .i64 vk, .int .i64 vn, .string vs] 23)) := btV B1 d3
        have sz3 : (x3.alloc (.cells #[.int .i64 vk, .int .i64 vn, .string vs] 23)).heap.size = x3.heap.size + 1 := by simp
        clear f5 f5'
        have o0 := f5''.c0; have o1 := f5''.c1; have o2 := f5''.c2
        have c0 := a3.c0; have c1' := a3.c1; have c2 := a3.c2
        obtain ⟨r0, r1, r2, q0, q1, q2⟩ := Res.new x3
        skip
        go_wp2_with fail
        clear r0 r1 r2 q0 q1 q2
        refine (HVp.out _).mono ?_
        rintro e x4 ⟨vc, rfl, hv4, b4⟩
        have S4 := b4.size
        rw [sz3] at S4
        have B4 := btV B3 b4
        have f6 := f5''.below (by omega) b4
        have a4 := a3.below (by omega) b4
        clear o0 o1 o2 c0 c1' c2
        have c0 := a4.c0; have c1' := a4.c1; have c2 := a4.c2
        obtain ⟨b, cap, rfl⟩ := URow.slice hv4
        go_wp2_with fail
        refine (HRr.out _).mono ?_
        rintro e x5 ⟨rfl, b5⟩
        go_wp2_with fail
        go_ret
        exact ⟨rfl, btV B4 b5⟩
      | some x =>
        have hbr : bytesR k0 n0 s0 = [] := by unfold bytesR; rw [hr]; rfl
        have hte : thingE k0 n0 s0 = 22 := by unfold thingE; rw [hr]; rfl
        unfold valV at hne heq htk HRr
        have hvp : ∀ W, Calls Tryd.prog 18 #[.agg #[.int .i64 k0, .int .i64 n0, .string s0]] W (ValBytesPost W k0 n0 s0) := fun W => valBytes_any k0 n0 s0 W hn0 hn1
        unfold ValBytesPost at hvp
        rw [hbr] at hvp
        rw [hte] at hvp
        rw [hr] at HRr
        have HVp := Lib.hid hvp
        clear hvp hbr hte hr HRb
        go_enter Tryd.func5, Tryd.ntmps5
        go_wp2_with fail
        refine (HAw.out _ (hT.below hb0)).mono ?_
        rintro e x1 ⟨rfl, b1⟩
        have B1 := btV hb0 b1
        have S1 : w.heap.size + 1 ≤ x1.heap.size := by have := b1.size; rw [hsz0] at this; exact this
        have a0 := HB0.out.below (by rw [hsz0]; omega) b1
        have c0 := a0.c0; have c1' := a0.c1; have c2 := a0.c2
        go_wp2_with (at_builtin; refine wpList_append_own _ rfl _ _ 36 rfl x1.heap.size 5 i0 (.int .u8 0) 1 1 Tryd.underlying36 hi hz0 hz1 hz2 rfl (by decide) _ 0 [] rfl (lit0 x1) x z1.length c1 (z1.map u8v) rfl ?l1 ?a1 ?b1 ?c1 ?d1 ?e1 ?_)
        try (case l1 => rw [List.length_map, Nat.mul_one])
        try (case a1 => exact (RdB.below HRd.out (Nat.le_refl _) (B1.alloc B1.size _)).news)
        try (case b1 => exact u8v_one _)
        try (case c1 => unfold maxLen; omega)
        try (case d1 => omega)
        try (case e1 => simp)
        intro v4 w4 hown4 hgrow4 _
        have hr4 : URow w4 x1.heap.size v4 z1.length z1 := by unfold URow; simpa using hown4
        have d4 : Below x1.heap.size x1 w4 := ((Below.refl x1.heap.size x1).alloc (Nat.le_refl _) _).grown hgrow4 (by simp) (fun k' hk' => (World.ownsRow.lt (lit0 x1) k' hk').1)
        have hTk := take_row hr4 (by omega)
        rw [htk] at hTk
        have HTk := Lib.hid hTk
        clear hTk hown4 hgrow4
        go_wp2_with fail
        refine HTk.out.mono ?_
        rintro e x2 ⟨rfl, b2⟩
        have D2 : Below x1.heap.size x1 x2 := btV d4 b2
        have B2 := btV B1 D2
        have S2 := D2.size
        have B2a : Below w.heap.size w (x2.alloc (.cells #[.int .i64 vk, .int .i64 vn, .string vs] 23)) := B2.alloc B2.size _
        have hRt := refTake_any (some x) c1 z1 (x2.alloc (.cells #[.int .i64 vk, .int .i64 vn, .string vs] 23)) (HRd.out.below (Nat.le_refl _) B2a) (by first | exact hlc | simp) (by first | omega | simp)
        rw [htk] at hRt
        have HRt := Lib.hid hRt
        clear hRt
        have f5 := BoxF.new x2 vk vn vs
        have sz2 : (x2.alloc (.cells #[.int .i64 vk, .int .i64 vn, .string vs] 23)).heap.size = x2.heap.size + 1 := by simp
        clear c0 c1' c2
        obtain ⟨r0, r1, r2, q0, q1, q2⟩ := Res.new x2
        go_wp2_with fail
        clear r0 r1 r2 q0 q1 q2
        refine HRt.out.mono ?_
        rintro e x3 ⟨rfl, b3⟩
        have S3 := b3.size
        rw [sz2] at S3
        have f5' := f5.below (by rw [sz2]; omega) b3
        have d3 : Below x1.heap.size x1 (x3.alloc (.cells #[.int .i64 vk, .int .i64 vn, .string vs] 23)) := (btV (D2.alloc D2.size _) b3).alloc (by omega) _
        have f5'' : BoxF (x3.alloc (.cells #[.int .i64 vk, .int .i64 vn, .string vs] 23)) x2.heap.size vk vn vs := f5'.block (Lib.alloc_old _ _ _ (by omega))
        have a3 : Box (x3.alloc (.cells #[.int .i64 vk, .int .i64 vn, .string vs] 23)) w.heap.size k0 n0 s0 := a0.below (by omega) d3
        have B3 : Below w.heap.size w (x3.alloc (.cells #[.int .i64 vk, .int .i64 vn, .string vs] 23)) := btV B1 d3
        have sz3 : (x3.alloc (.cells #[.int .i64 vk, .int .i64 vn, .string vs] 23)).heap.size = x3.heap.size + 1 := by simp
        clear f5 f5'
        have o0 := f5''.c0; have o1 := f5''.c1; have o2 := f5''.c2
        have c0 := a3.c0; have c1' := a3.c1; have c2 := a3.c2
        obtain ⟨r0, r1, r2, q0, q1, q2⟩ := Res.new x3
        skip
        go_wp2_with fail
        clear r0 r1 r2 q0 q1 q2
        refine (HVp.out _).mono ?_
        rintro e x4 ⟨vc, rfl, hv4, b4⟩
        have S4 := b4.size
        rw [sz3] at S4
        have B4 := btV B3 b4
        have f6 := f5''.below (by omega) b4
        have a4 := a3.below (by omega) b4
        clear o0 o1 o2 c0 c1' c2
        have c0 := a4.c0; have c1' := a4.c1; have c2 := a4.c2
        obtain ⟨b, cap, rfl⟩ := URow.slice hv4
        go_wp2_with fail
        refine (HRr.out _).mono ?_
        rintro e x5 ⟨rfl, b5⟩
        go_wp2_with fail
        go_ret
        exact ⟨rfl, btV B4 b5⟩

set_option maxRecDepth 100000 in
theorem lifted (os : Os) (started : os.Started) (H : Type) (enc : TypeId × Value → H) :
    ReturnsInHanded {} Tryd.checked os 5 .any (fun w args => (Rows.valueTakesSpec.pre enc Tryd.prog Tryd.f5 [] false w args ∧ laidMetH Tryd.prog Rows.valueTakesRow.laid w) ∧ sizedMet enc Tryd.prog Tryd.f5 (OpenSpec.ofChange Rows.valueTakesSpec) false w args) (Rows.valueTakesSpec.post enc Tryd.prog Tryd.f5 false true false false) := by
  refine returnsInHanded_of_change_and (C := Tryd.checked) (X := fun w _ => laidMetH Tryd.prog Rows.valueTakesRow.laid w) (fun _ _ _ hh h => h.of_heap hh) own started (by kernel_rfl) Tryd.func5
    (ChangeSpec.witness_shaped (enc := enc) (C := Tryd.checked) (os := os) (X := fun w _ => laidMetH Tryd.prog Rows.valueTakesRow.laid w) false (World.laidAll Tryd.prog os Rows.valueTakesRow.laid) #[.agg #[.int .i64 0, .int .i64 0, .string ByteArray.empty], .slice none 0 0] 8 (World.laidAll_os _ _ _)
      (World.shaped_of_ZipB (by kernel_rfl) (by kernel_rfl)) (by kernel_rfl) (by kernel_rfl) (by kernel_rfl)
      (by rw [MakeChecks.laidMetH_plain _ _ _ (by kernel_rfl)]; exact laidMet_laidAll _ (by kernel_rfl) (by kernel_rfl))) ?_
  intro W base args ds gs before hval0 hW _ _ hL _
  have hval : ∀ (j : Nat) t v, Tryd.f5.params[j]? = some t → args[j]? = some v → Value.okWide Tryd.prog W .any base t v := hval0
  have hW' := hW
  obtain ⟨p, q, hA0, hV, rfl, hfz, hnd⟩ := hW
  have hA : DataW.TrodAll enc Tryd.prog W 0 (fun _ => true) true Tryd.f5.params.toList args.toList ds p := hA0
  rw [Tryd.params5] at hA hval
  obtain ⟨v0, vs0, d0, ds0, p0, q0, hargs, rfl, rfl, h0, r0⟩ := trodAll_cons hA
  obtain ⟨v1, vs1, d1, ds1, p1, q1, rfl, rfl, rfl, h1, r1⟩ := trodAll_cons r0
  obtain ⟨rfl, rfl, rfl⟩ := trodAll_nil r1
  obtain rfl : args = #[v0, v1] := by cases args; simp_all
  obtain ⟨rfl, rfl⟩ := trodVars_none hV
  have tv0 := h0
  obtain ⟨k0, n0, s0, rfl, rfl, w0⟩ := open_val (hval 0 23 v0 rfl rfl) h0
  obtain ⟨a1, l1, c1, rfl⟩ := okWide_slice Tryd.underlying36 (hval 1 36 v1 rfl rfl)
  have tk1 := h1
  have lt1 : ∀ x ∈ p1, x.block < W.heap.size := by obtain ⟨m, hm⟩ := tk1; exact DataW.trod_lt m _ _ _ hm
  obtain ⟨z1, w1⟩ : ∃ zs, SlcB W a1 l1 c1 zs := by
    obtain ⟨fuel, hf⟩ := h1
    rcases open_ints Tryd.underlying36 Tryd.underlying5 (by kernel_rfl) hf with ⟨hcs, _⟩ | ⟨x, l, c, zs, hcs, _, hl, hm, hz, _, hcell, hwz⟩
    · simp [Value.cells] at hcs
      obtain ⟨rfl, rfl, rfl⟩ := hcs
      exact ⟨[], SlcB.none_ W⟩
    · simp [Value.cells] at hcs
      obtain ⟨rfl, rfl, rfl⟩ := hcs
      exact ⟨_, SlcB.some_ hl (by simpa using hz) hcell hwz⟩
  clear hA0 hval0
  rw [MakeChecks.laidMetH_plain _ _ _ (by kernel_rfl)] at hL
  have hT : Std W := std_of_laid hL
  refine (walk k0 n0 s0 a1 l1 c1 z1 w0 W w1 hT).mono fun e W' ⟨he, bel⟩ => ?_
  subst he
  exact ⟨_, rfl, _, _, _, [], _, [], hW', trodAll_mk1 (shut_bool Tryd.underlying4 _), (trodAll_cons_mk (Below.trod laidOut (by kernel_rfl) (of_decide_eq_true (by kernel_rfl)) tv0 bel (fun _ hx => by cases hx)) (trodAll_cons_mk (Below.trod laidOut (by kernel_rfl) (of_decide_eq_true (by kernel_rfl)) tk1 bel lt1) trodAll_mk0)), rfl, bel.frame _, fun h => by cases h⟩

theorem over : Rows.valueTakesRow.holds Tryd.pinned (OpenSpec.ofChange Rows.valueTakesSpec) :=
  OpenClaim.holds_of_wide 5 Tryd.f5 rfl rfl rfl rfl rfl rfl rfl ⟨rfl, rfl, rfl, rfl, rfl⟩ rfl rfl rfl rfl rfl (by kernel_rfl) Tryd.func5 (by kernel_rfl)
    (of_decide_eq_true (by kernel_rfl)) (by unfold Func.isWrapper; first | (rw [if_pos (by decide +kernel)]; kernel_rfl) | (rw [if_neg (by decide +kernel)]; exact ⟨rfl, rfl⟩))
    (fun os started H enc _ => lifted os started H enc)
theorem proved : Rows.ValueTakesCardSaid :=
  Claim7.holds_tied_plain_at .later [] [.data, .data, .data, .data, .sentinel, .sentinel, .pinned] true _ true
    over (fun _ h => by cases h) (by kernel_rfl) (fun _ h => by cases h) valueTakes_row_tie rfl ⟨rfl, rfl⟩ (by kernel_rfl) rfl
    (fun f fn hf hfn => by
      obtain rfl : f = 5 := Option.some.inj ((show Tryd.prog.funcNamed "cobweb/cobweblaw02.ValueTakes" = some 5 by kernel_rfl).symm.trans hf) |>.symm
      obtain rfl : fn = Tryd.f5 := (Option.some.inj (Tryd.func5.symm.trans hfn)).symm
      exact ⟨by kernel_rfl, fun j t ht => by
        rw [Tryd.params5] at ht
        have hm : t ∈ [23, 36] := by simpa using Array.mem_of_getElem? ht
        have hall : ([23, 36].all fun u => !Tryd.prog.wantsStandIn u) = true := by kernel_rfl
        exact (show Tryd.prog.wantsStandIn t = false by simpa using List.all_eq_true.1 hall t hm)⟩)
    (by kernel_rfl)
end Go.Proofs.YtkimibppfniejaaDoor.valueTakes
