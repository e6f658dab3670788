/- Behind Set each name has the value that was set last, the others what they had; behind Drop the dropped ones have none: at every input of the tied card, with no condition beyond it. -/
import Derived.Test.YtgacphpkgaobkaaDoorDoor
import Derived.Test.YtgacphpkgaobkaaDoorPropLaws
import Derived.Test.YtgacphpkgaobkaaDoorPost
namespace Go.Proofs.YtgacphpkgaobkaaDoor.propsGets
open Go.ChangeShapes Go.WideShapes Go.ChangeAt Go.RowKit
open Go.ChangeMaps (open_string shut_string)
set_option linter.unusedVariables false

set_option maxHeartbeats 40000000 in
set_option maxRecDepth 100000 in
theorem walk (a0 : Option Addr) (l0 c0 : Nat) (z0 : List Prop4) (a1 : Option Addr) (l1 c1 : Nat) (z1 : List Prop4) (a2 : ByteArray) (w2 : a2.size ≤ maxLen) (w : World) (w0 : SlcP w a0 l0 c0 z0) (w1 : SlcP w a1 l1 c1 z1) (hT : Tabs w) :
    Calls Tryd.prog 6 #[.slice a0 l0 c0, .slice a1 l1 c1, .string a2] w fun e w' => e = .returned (.bool true) ∧ Below w.heap.size w w' := by
  obtain ⟨rfl, hlc0, hn0, hrd0, hin0⟩ := w0
  obtain ⟨rfl, hlc1, hn1, hrd1, hin1⟩ := w1
  have HT := Lib.hid hT
  have HR0 := Lib.hid hrd0
  have HR1 := Lib.hid hrd1
  clear hT hrd0 hrd1 hin0 hin1
  go_enter Tryd.func6, Tryd.ntmps6
  go_wp2_with fail
  refine (awake_any _ HT.out).mono ?_
  rintro e x1 ⟨rfl, b1⟩
  have q0 := small_any a0 c0 z0 x1 (HR0.out.below (Nat.le_refl _) b1) hlc0
  cases hs0 : smallP z0 with
  | false =>
    rw [hs0] at q0
    have C0 := Lib.hid q0
    clear q0 hs0
    go_wp2_with fail
    refine C0.out.mono ?_
    rintro e x2 ⟨rfl, rfl⟩
    go_wp2_with fail
    refine (awake_any _ (Utf8Tabs_below HT.out b1)).mono ?_
    rintro e x3 ⟨rfl, b3⟩
    go_wp2_with fail
    go_ret
    exact ⟨rfl, btV b1 b3⟩
  | true =>
    rw [hs0] at q0
    have C0 := Lib.hid q0
    have HS0 := Lib.hid hs0
    clear q0 hs0
    go_wp2_with fail
    refine C0.out.mono ?_
    rintro e x2 ⟨rfl, rfl⟩
    have q1 := small_any a1 c1 z1 x1 (HR1.out.below (Nat.le_refl _) b1) hlc1
    cases hs1 : smallP z1 with
    | false =>
      rw [hs1] at q1
      have C1 := Lib.hid q1
      clear q1 hs1
      go_wp2_with fail
      refine C1.out.mono ?_
      rintro e x2 ⟨rfl, rfl⟩
      go_wp2_with fail
      refine (awake_any _ (Utf8Tabs_below HT.out b1)).mono ?_
      rintro e x3 ⟨rfl, b3⟩
      go_wp2_with fail
      go_ret
      exact ⟨rfl, btV b1 b3⟩
    | true =>
      rw [hs1] at q1
      have C1 := Lib.hid q1
      have HS1 := Lib.hid hs1
      clear q1 hs1
      go_wp2_with fail
      refine C1.out.mono ?_
      rintro e x2 ⟨rfl, rfl⟩
      have hl0 := (small_mem HS0.out).1
      have hl1 := (small_mem HS1.out).1
      have cS := propsSet_any a0 a1 c0 c1 z0 z1 x1 (HR0.out.below (Nat.le_refl _) b1) hn0 (HR1.out.below (Nat.le_refl _) b1) hlc0 hlc1 (by omega) (by omega) (small_big HS0.out) (small_big HS1.out) (Utf8Tabs_below HT.out b1)
      obtain ⟨⟨f, x⟩, hfx⟩ : ∃ p, setP z0 z1 = p := ⟨_, rfl⟩
      rw [hfx] at cS
      have CS := Lib.hid cS
      have HFx := Lib.hid hfx
      clear cS hfx
      go_wp2_with fail
      refine CS.out.mono ?_
      rintro e x5 ⟨v, rfl, hrow, b5⟩
      have B5 := btV b1 b5
      by_cases hf : f = 0
      · subst hf
        obtain ⟨_, _, hasc, _, hl16, hget⟩ := setP_done HFx.out
        obtain ⟨A, c, rfl, hcap, hA, hrd⟩ := hrow.rd
        dsimp only at hrd hcap hrow
        have hbig := setP_big HFx.out HS0.out HS1.out
        have HGet := Lib.hid (hget a2)
        have HAsc := Lib.hid hasc
        have HRx := Lib.hid hrd
        have HBig := Lib.hid hbig
        clear hget hasc hrow hbig hrd
        have g1 := propsGet_any A c x a2 x5 HRx.out (by omega) HBig.out
        obtain ⟨⟨⟨gk, gn, gs⟩, gb⟩, hg⟩ : ∃ p, getP a2 x = p := ⟨_, rfl⟩
        rw [hg] at g1
        have HG := Lib.hid hg
        have G1 := Lib.hid g1
        clear g1 hg
        go_wp2_with fail
        refine G1.out.mono ?_
        rintro e x6 ⟨rfl, b6⟩
        have B6 := btV B5 b6
        have g2 := propsGet_any a0 c0 z0 a2 (x6.alloc (.cells #[.int .i64 gk, .int .i64 gn, .string gs] 36)) (HR0.out.below (Nat.le_refl _) (B6.alloc B6.size _)) (by omega) (small_big HS0.out)
        obtain ⟨⟨⟨hk, hn, hs⟩, hb⟩, hh⟩ : ∃ p, getP a2 z0 = p := ⟨_, rfl⟩
        rw [hh] at g2
        have HH := Lib.hid hh
        have G2 := Lib.hid g2
        clear g2 hh
        unfold valV
        go_wp2_with fail
        refine G2.out.mono ?_
        rintro e x7 ⟨rfl, b7⟩
        have hN9 := HoldV.new x6 gk gn gs
        have hs6 : (x6.alloc (.cells #[.int .i64 gk, .int .i64 gn, .string gs] 36)).heap.size = x6.heap.size + 1 := by simp
        have hs7 := b7.size
        rw [hs6] at hs7
        have hN9' := hN9.below b7 (by omega)
        have b67 : Below x6.heap.size x6 x7 := ((Below.refl _ x6).alloc (Nat.le_refl _) _).trans (b7.mono (by omega))
        have b57 : Below x5.heap.size x5 x7 := btV b6 b67
        have hN11 := HoldV.new x7 hk hn hs
        have b58 : Below x5.heap.size x5 (x7.alloc (.cells #[.int .i64 hk, .int .i64 hn, .string hs] 36)) := b57.alloc b57.size _
        have hs8 : (x7.alloc (.cells #[.int .i64 hk, .int .i64 hn, .string hs] 36)).heap.size = x7.heap.size + 1 := by simp
        have hN9s := hN9'.block (Lib.alloc_old x7 (.cells #[.int .i64 hk, .int .i64 hn, .string hs] 36) x6.heap.size (by omega))
        have H9 := Lib.hid hN9s
        have H11 := Lib.hid hN11
        have hs56 := b6.size
        clear hN9 hN9' hN9s hN11
        unfold valV
        go_wp2_with fail
        go_loopw [12, 13] (fun y i wr => ∃ (k : Nat) (cur : Val3 × Bool), k ≤ z1.length ∧ i = .int .i64 (k : Nat) ∧ y = .bool cur.2 ∧ afterP a2 (z1.drop k) cur = afterP a2 z1 ((hk, hn, hs), hb) ∧ HoldV wr x7.heap.size cur.1 ∧ HoldV wr x6.heap.size (gk, gn, gs) ∧ wr.heap.size = x7.heap.size + 1 ∧ Below x5.heap.size x5 wr) (fun _ i _ => z1.length - (intOf i).toNat)
        case atStart => exact ⟨0, ((hk, hn, hs), hb), Nat.zero_le _, rfl, rfl, by simp, H11.out, H9.out, hs8, b58⟩
        case round =>
          obtain ⟨k, ⟨⟨vk, vn, vs⟩, vb⟩, hk1, rfl, rfl, hacc, hv11, hv9, hsw, hbw⟩ := hrel
          dsimp only at hacc hv11
          have Bw := btV B5 hbw
          by_cases hlt : k < z1.length
          · rw [drop_getD z1 k hlt] at hacc
            obtain ⟨ad, rfl, hblk, p0, p1, p2, p3⟩ := (HR1.out.below (Nat.le_refl _) Bw).at4 hlt
            obtain ⟨z, hz⟩ : ∃ z, z1.getD k Prop4.no = z := ⟨_, rfl⟩
            rw [hz] at p0 p1 p2 p3 hacc
            clear hz
            obtain ⟨za, zk, zn, zs⟩ := z
            dsimp only at p0 p1 p2 p3
            have hst : afterP a2 (z1.drop (k + 1)) (if za = a2 then ((zk, zn, zs), true) else ((vk, vn, vs), vb)) = afterP a2 z1 ((hk, hn, hs), hb) := hacc
            have H11' := Lib.hid hv11
            have H9' := Lib.hid hv9
            obtain ⟨⟨y0, y1, y2⟩, f0, f1, f2⟩ := hv11.at
            clear hacc hv11 hv9
            by_cases he : za = a2
            · rw [if_pos he] at hst
              have HSt := Lib.hid hst
              have hse := str_same he
              have hput := H11'.out.set3 (zk, zn, zs)
              have hput9 := H9'.out.put_other (M := x7.heap.size) (y := (zk, zn, zs)) (by omega)
              have hbp := below_put3 hbw (N := x7.heap.size) (by omega) (zk, zn, zs)
              have HP := Lib.hid hput
              have HP9 := Lib.hid hput9
              have HBp := Lib.hid hbp
              clear hst hput hput9 hbp he
              go_wp2_with fail
              go_roundw
              case rel => exact ⟨k + 1, ((zk, zn, zs), true), by omega, by go_num, rfl, HSt.out, HP.out, HP9.out, by simp [hsw], HBp.out⟩
              case measure => simp [intOf]; omega
            · rw [if_neg he] at hst
              have HSt := Lib.hid hst
              have hse := str_diff he
              clear hst he
              go_wp2_with fail
              go_roundw
              case rel => exact ⟨k + 1, ((vk, vn, vs), vb), by omega, by go_num, rfl, HSt.out, H11'.out, H9'.out, hsw, hbw⟩
              case measure => simp [intOf]; omega
          · obtain rfl : k = z1.length := by omega
            rw [List.drop_eq_nil_of_le (Nat.le_refl _)] at hacc
            have hcur : (((vk, vn, vs), vb) : Val3 × Bool) = ((gk, gn, gs), gb) := by
              have h1 := HGet.out
              rw [HG.out, HH.out, ← hacc] at h1
              exact h1.symm
            injection hcur with h1 h2
            injection h1 with h3 h4
            injection h4 with h5 h6
            subst h2 h3 h5 h6
            have hw7 : x7.heap.size < wr.heap.size := by omega
            have hw6 : x6.heap.size < wr.heap.size := by omega
            clear hsw
            have hlen := dropP_len x a2 HAsc.out
            rw [HG.out] at hlen
            dsimp only at hlen
            have hgd := getP_drop x a2
            have cD := propsDrop_any A (some ⟨wr.heap.size, 0, none⟩) c 1 x [a2] (wr.alloc (.cells #[.string a2] 9)) ((HRx.out.below (Nat.le_refl _) hbw).below (Nat.le_refl _) ((Below.refl _ wr).alloc (Nat.le_refl _) _)) hA (RdS.one wr a2 _ rfl) hcap (by omega) (by simp) HBig.out
            have CD := Lib.hid cD
            have HLen := Lib.hid hlen
            have HGd := Lib.hid hgd
            have H11' := Lib.hid hv11
            have H9' := Lib.hid hv9
            clear hlen hgd cD hacc hv11 hv9
            go_wp2_with fail
            refine CD.out.mono ?_
            rintro e y1 ⟨vd, rfl, hrowd, d1⟩
            have hsr : (wr.alloc (.cells #[.string a2] 9)).heap.size = wr.heap.size + 1 := by simp
            have dw1 : Below wr.heap.size wr y1 := ((Below.refl _ wr).alloc (Nat.le_refl _) _).trans (d1.mono (by omega))
            have Bw1 := btV hbw dw1
            obtain ⟨Ad, cd, rfl, hcd, hAd, hrdd⟩ := hrowd.rd
            have g3 := propsGet_any Ad cd (dropP x [a2]) a2 y1 hrdd (by have := HLen.out; omega) (fun z hz => HBig.out z (dropP_mem z hz))
            rw [HGd.out] at g3
            have G3 := Lib.hid g3
            have h11a := H11'.out.below dw1 (by omega)
            have h9a := H9'.out.below dw1 (by omega)
            have H11a := Lib.hid h11a
            have H9a := Lib.hid h9a
            clear g3 hrdd hrowd h11a h9a
            go_wp2_with fail
            refine G3.out.mono ?_
            rintro e y2 ⟨rfl, d2⟩
            have dw2 := btV dw1 d2
            have hsd2 := dw2.size
            have h11b := (H11a.out.below d2 (by have := dw1.size; omega)).block (Lib.alloc_old y2 (.cells #[.int .i64 0, .int .i64 0, .string ByteArray.empty] 36) x7.heap.size (by omega))
            have h9b := (H9a.out.below d2 (by have := dw1.size; omega)).block (Lib.alloc_old y2 (.cells #[.int .i64 0, .int .i64 0, .string ByteArray.empty] 36) x6.heap.size (by omega))
            obtain ⟨⟨u0, u1, u2⟩, _⟩ := h11b.at
            obtain ⟨⟨t0, t1, t2⟩, _⟩ := h9b.at
            clear h11b h9b
            have hev := fun W => eq_val vk vn vs vk vn vs W
            rw [show sameV vk vn vs vk vn vs = true from by rw [sameV_iff]; simp] at hev
            have d3 : Below wr.heap.size wr (y2.alloc (.cells #[.int .i64 0, .int .i64 0, .string ByteArray.empty] 36)) := dw2.alloc dw2.size _
            have Bw3 := btV hbw d3
            have d4 : Below (y2.alloc (.cells #[.int .i64 0, .int .i64 0, .string ByteArray.empty] 36)).heap.size (y2.alloc (.cells #[.int .i64 0, .int .i64 0, .string ByteArray.empty] 36)) ((y2.alloc (.cells #[.int .i64 0, .int .i64 0, .string ByteArray.empty] 36)).alloc (.cells #[.string a2] 9)) := (Below.refl _ _).alloc (Nat.le_refl _) _
            have cD2 := propsDrop_any A (some ⟨(y2.alloc (.cells #[.int .i64 0, .int .i64 0, .string ByteArray.empty] 36)).heap.size, 0, none⟩) c 1 x [a2] _ ((HRx.out.below (Nat.le_refl _) Bw3).below (Nat.le_refl _) d4) hA (RdS.one (y2.alloc (.cells #[.int .i64 0, .int .i64 0, .string ByteArray.empty] 36)) a2 _ rfl) hcap (by omega) (by simp) HBig.out
            rw [show (y2.alloc (.cells #[.int .i64 0, .int .i64 0, .string ByteArray.empty] 36)).heap.size = y2.heap.size + 1 from by simp] at cD2
            have CD2 := Lib.hid cD2
            have Bw4 := btV (btV B5 Bw3) d4
            have HBw4 := Lib.hid Bw4
            have hsz4 : w.heap.size ≤ y2.heap.size + 1 := by have := (btV B5 Bw3).size; simpa using this
            clear cD2 Bw4 d4 Bw3 d3 hcd hAd
            unfold valV at hev ⊢
            have hsub : IntKind.i64.wrap ((x.length : Int) - 1) = (x.length : Int) - 1 := by rw [IntKind.wrap_i64]; omega
            cases vb with
            | true =>
              have hlen2 : ((dropP x [a2]).length : Int) = (x.length : Int) - 1 := by have := HLen.out; simp only [if_true] at this; omega
              have hle : (((dropP x [a2]).length : Int) == (x.length : Int) - 1) = true := by rw [hlen2]; simp
              have HL2 := Lib.hid hlen2
              clear hlen2
              go_wp2_with fail
              refine CD2.out.mono ?_
              rintro e y5 ⟨v5, rfl, hrow5, d5⟩
              obtain ⟨A5, c5, rfl, _⟩ := hrow5.rd
              go_wp2_with fail
              go_ret
              exact ⟨rfl, btV HBw4.out d5⟩
            | false =>
              have hlen2 : ((dropP x [a2]).length : Int) = (x.length : Int) := by have := HLen.out; simp at this; omega
              have hle : (((dropP x [a2]).length : Int) == (x.length : Int)) = true := by rw [hlen2]; simp
              have HL2 := Lib.hid hlen2
              clear hlen2
              go_wp2_with fail
              refine CD2.out.mono ?_
              rintro e y5 ⟨v5, rfl, hrow5, d5⟩
              obtain ⟨A5, c5, rfl, _⟩ := hrow5.rd
              go_wp2_with fail
              go_ret
              exact ⟨rfl, btV HBw4.out d5⟩
      · have hf1 : (f != 0) = true := by simpa using hf
        go_wp2_with fail
        go_ret
        exact ⟨rfl, B5⟩

set_option maxRecDepth 100000 in
theorem lifted (os : Os) (started : os.Started) (H : Type) (enc : TypeId × Value → H) :
    ReturnsInHanded {} Tryd.checked os 6 .any (fun w args => (Rows.propsGetsSpec.pre enc Tryd.prog Tryd.f6 [] false w args ∧ laidMetH Tryd.prog Rows.propsGetsRow.laid w) ∧ sizedMet enc Tryd.prog Tryd.f6 (OpenSpec.ofChange Rows.propsGetsSpec) false w args) (Rows.propsGetsSpec.post enc Tryd.prog Tryd.f6 false true false false) := by
  refine returnsInHanded_of_change_and (C := Tryd.checked) (X := fun w _ => laidMetH Tryd.prog Rows.propsGetsRow.laid w) (fun _ _ _ hh h => h.of_heap hh) own started (by kernel_rfl) Tryd.func6
    (ChangeSpec.witness_shaped (enc := enc) (C := Tryd.checked) (os := os) (X := fun w _ => laidMetH Tryd.prog Rows.propsGetsRow.laid w) false (World.laidAll Tryd.prog os Rows.propsGetsRow.laid) #[.slice none 0 0, .slice none 0 0, .string ByteArray.empty] 8 (World.laidAll_os _ _ _)
      (World.shaped_of_ZipB (by kernel_rfl) (by kernel_rfl)) (by kernel_rfl) (by kernel_rfl) (by kernel_rfl)
      (by rw [MakeChecks.laidMetH_plain _ _ _ (by kernel_rfl)]; exact laidMet_laidAll _ (by kernel_rfl) (by kernel_rfl))) ?_
  intro W base args ds gs before hval0 hW _ _ hL _
  have hval : ∀ (j : Nat) t v, Tryd.f6.params[j]? = some t → args[j]? = some v → Value.okWide Tryd.prog W .any base t v := hval0
  have hW' := hW
  obtain ⟨p, q, hA0, hV, rfl, hfz, hnd⟩ := hW
  have hA : DataW.TrodAll enc Tryd.prog W 0 (fun _ => true) true Tryd.f6.params.toList args.toList ds p := hA0
  rw [Tryd.params6] at hA hval
  obtain ⟨v0, vs0, d0, ds0, p0, q0, hargs, rfl, rfl, h0, r0⟩ := trodAll_cons hA
  obtain ⟨v1, vs1, d1, ds1, p1, q1, rfl, rfl, rfl, h1, r1⟩ := trodAll_cons r0
  obtain ⟨v2, vs2, d2, ds2, p2, q2, rfl, rfl, rfl, h2, r2⟩ := trodAll_cons r1
  obtain ⟨rfl, rfl, rfl⟩ := trodAll_nil r2
  obtain rfl : args = #[v0, v1, v2] := by cases args; simp_all
  obtain ⟨rfl, rfl⟩ := trodVars_none hV
  obtain ⟨a0, l0, c0, rfl⟩ := okWide_slice Tryd.underlying22 (hval 0 22 v0 rfl rfl)
  have tk0 := h0
  have lt0 : ∀ x ∈ p0, x.block < W.heap.size := by obtain ⟨m, hm⟩ := tk0; exact DataW.trod_lt m _ _ _ hm
  obtain ⟨z0, w0⟩ : ∃ zs, SlcP W a0 l0 c0 zs := by
    obtain ⟨fuel, hf⟩ := h0
    exact open_props (by simpa [Value.cells] using hf)
  obtain ⟨a1, l1, c1, rfl⟩ := okWide_slice Tryd.underlying22 (hval 1 22 v1 rfl rfl)
  have tk1 := h1
  have lt1 : ∀ x ∈ p1, x.block < W.heap.size := by obtain ⟨m, hm⟩ := tk1; exact DataW.trod_lt m _ _ _ hm
  obtain ⟨z1, w1⟩ : ∃ zs, SlcP W a1 l1 c1 zs := by
    obtain ⟨fuel, hf⟩ := h1
    exact open_props (by simpa [Value.cells] using hf)
  obtain ⟨a2, rfl, rfl, rfl, w2⟩ := open_string Tryd.underlying9 (hval 2 9 v2 rfl rfl) h2
  clear hA0 hval0
  rw [MakeChecks.laidMetH_plain _ _ _ (by kernel_rfl)] at hL
  have hT : Tabs W := tabs_of_laid hL
  refine (walk a0 l0 c0 z0 a1 l1 c1 z1 a2 w2 W w0 w1 hT).mono fun e W' ⟨he, bel⟩ => ?_
  subst he
  exact ⟨_, rfl, _, _, _, [], _, [], hW', trodAll_mk1 (shut_bool Tryd.underlying4 _), (trodAll_cons_mk (Below.trod laidOut (by kernel_rfl) (of_decide_eq_true (by kernel_rfl)) tk0 bel lt0) (trodAll_cons_mk (Below.trod laidOut (by kernel_rfl) (of_decide_eq_true (by kernel_rfl)) tk1 bel lt1) (trodAll_cons_mk (shut_string Tryd.underlying9 w2) trodAll_mk0))), rfl, bel.frame _, fun h => by cases h⟩

theorem over : Rows.propsGetsRow.holds Tryd.pinned (OpenSpec.ofChange Rows.propsGetsSpec) :=
  OpenClaim.holds_of_wide 6 Tryd.f6 rfl rfl rfl rfl rfl rfl rfl ⟨rfl, rfl, rfl, rfl, rfl⟩ rfl rfl rfl rfl rfl (by kernel_rfl) Tryd.func6 (by kernel_rfl)
    (of_decide_eq_true (by kernel_rfl)) (by unfold Func.isWrapper; first | (rw [if_pos (by decide +kernel)]; kernel_rfl) | (rw [if_neg (by decide +kernel)]; exact ⟨rfl, rfl⟩))
    (fun os started H enc _ => lifted os started H enc)
theorem proved : Rows.PropsGetsCardSaid :=
  Claim7.holds_tied_plain_at .later [] [.data, .pinned] true _ true
    over (fun _ h => by cases h) (by kernel_rfl) (fun _ h => by cases h) propsGets_row_tie rfl ⟨rfl, rfl⟩ (by kernel_rfl) rfl
    (fun f fn hf hfn => by
      obtain rfl : f = 6 := Option.some.inj ((show Tryd.prog.funcNamed "cobweb/cobweblaw03.PropsGets" = some 6 by kernel_rfl).symm.trans hf) |>.symm
      obtain rfl : fn = Tryd.f6 := (Option.some.inj (Tryd.func6.symm.trans hfn)).symm
      exact ⟨by kernel_rfl, fun j t ht => by
        rw [Tryd.params6] at ht
        have hm : t ∈ [22, 22, 9] := by simpa using Array.mem_of_getElem? ht
        have hall : ([22, 22, 9].all fun u => !Tryd.prog.wantsStandIn u) = true := by kernel_rfl
        exact (show Tryd.prog.wantsStandIn t = false by simpa using List.all_eq_true.1 hall t hm)⟩)
    (by kernel_rfl)
end Go.Proofs.YtgacphpkgaobkaaDoor.propsGets
