/- Behind whole blocks any bytes are scanned as they are alone. -/
import Derived.Test.YtpmmbbkomikceaaDoorBlDoor
import Derived.Test.YtpmmbbkomikceaaDoorBlCode4
import Derived.Test.YtpmmbbkomikceaaDoorBlAwake
import Derived.Test.YtpmmbbkomikceaaDoorBlMath
import Derived.Test.YtpmmbbkomikceaaDoorBlCutG
import Derived.Test.YtpmmbbkomikceaaDoorPass
namespace Go.Proofs.YtpmmbbkomikceaaDoor.blockJoins
open Go.ChangeShapes Go.WideShapes Go.ChangeAt Go.RowKit
open Go.ChangeMaps (open_string shut_string)
set_option linter.unusedVariables false

set_option maxHeartbeats 40000000 in
set_option maxRecDepth 100000 in
theorem walk (a0 : Option Addr) (l0 c0 : Nat) (z0 : List BlZ) (a1 : Option Addr) (l1 c1 : Nat) (z1 : List UInt8)  (w : World) (w0 : SlcL w a0 l0 c0 z0) (w1 : SlcY w a1 l1 c1 z1) (hT : Tabs w) :
    Calls Tryd.prog 7 #[.slice a0 l0 c0, .slice a1 l1 c1] w fun e w' => e = .returned (.bool true) ∧ Below w.heap.size w w' := by
  obtain ⟨rfl, hlc, hrd⟩ := w0
  obtain ⟨rfl, hlt, hrt⟩ := w1
  have HR := Lib.hid hrd
  have HT := Lib.hid hrt
  have C := blSpec_is
  have HTab := Lib.hid hT
  clear hT
  clear hrd hrt
  go_enter Tryd.func7, Tryd.ntmps7
  go_wp2_with fail
  refine (awake_any C _ HTab.out).mono ?_
  rintro e x1 ⟨rfl, b1⟩
  have hS := small_any a0 c0 z0 x1 (HR.out.below (Nat.le_refl _) b1) hlc
  by_cases hsm : z0.length ≤ 20 ∧ ∀ z ∈ z0, z.body.bs.length ≤ 500
  · rw [decide_eq_true hsm] at hS
    have HS := Lib.hid hS
    obtain ⟨h20, h500⟩ := hsm
    have hal := allR_le z0 500 h500
    have hal2 : (allR z0).length ≤ 10200 := by omega
    have hsc := scanR_all z0 z1 (fun z hz => Nat.le_trans (h500 z hz) (by decide))
    have HSc := Lib.hid hsc
    clear hS hal h500 hsc
    by_cases hbig : 1000 < z1.length
    · have hbigi : (1000 : Int) < (z1.length : Int) := by omega
      go_wp2_with fail
      refine HS.out.mono ?_
      rintro e x2 ⟨rfl, rfl⟩
      go_wp2_with fail
      refine (awake_any C _ (HTab.out.below b1)).mono ?_
      rintro e x3 ⟨rfl, b3⟩
      go_wp2_with fail
      go_ret
      exact ⟨rfl, b1.trans (b3.mono b1.size)⟩
    · have hbigi : ¬ ((1000 : Int) < (z1.length : Int)) := by omega
      go_wp2_with fail
      refine HS.out.mono ?_
      rintro e x2 ⟨rfl, rfl⟩
      have hA := refAllB_any a0 c0 z0 x1 (HR.out.below (Nat.le_refl _) b1) hlc (by omega) (by omega)
      obtain ⟨al, hal3⟩ : ∃ al, allR z0 = al := ⟨_, rfl⟩
      have HAl := Lib.hid hal3
      rw [hal3] at hA hal2
      have HA := Lib.hid hA
      have HB1 := Lib.hid b1
      clear hA b1 HS hal3
      go_wp2_with fail
      refine HA.out.mono ?_
      rintro e x3 ⟨v, rfl, r3, b3⟩
      obtain ⟨Ab, cb, rfl, hcb, hrb, -, -⟩ := r3.rd
      have HRb := Lib.hid hrb
      have HB3 := Lib.hid (HB1.out.trans (b3.mono HB1.out.size))
      clear r3 b3 hrb HA
      have hA0 : Below x3.heap.size x3 (x3.alloc (.cells #[] 5)) := (Below.refl x3.heap.size x3).alloc (Nat.le_refl _) _
      have HA0 := Lib.hid hA0
      have hR0 : layB.Row 5 (x3.alloc (.cells #[] 5)) x3.heap.size (.slice (some ⟨x3.heap.size, 0, none⟩) 0 0) 0 [] := LayG.Row.lit x3 #[] [] rfl (by decide)
      have HR0 := Lib.hid hR0
      have hRa := HRb.out.below (Nat.le_refl _) hA0
      have HRa := Lib.hid hRa
      clear hA0 hR0 hRa
      go_wp2_with (at_builtin; refine wpList_append_G typB rfl _ _ rfl x3.heap.size (.slice (some ⟨x3.heap.size, 0, none⟩) 0 0) 0 [] rfl HR0.out Ab al.length cb al rfl rfl HRa.out (by show 0 + al.length ≤ 1000000; omega) HA0.out.size _ rfl ?_)
      intro v3 w3 r3 g3 l3
      have HB4 := Lib.hid (HA0.out.grown g3 HA0.out.size (fun g hg => (HR0.out.lt g hg).1))
      have HR3 := Lib.hid r3
      have HT3 := Lib.hid (HT.out.below (Nat.le_refl _) (HB3.out.trans (HB4.out.mono HB3.out.size)))
      clear r3 g3 HR0 HRa
      go_wp2_with (at_builtin; refine wpList_append_G typB rfl _ _ rfl x3.heap.size v3 al.length al rfl HR3.out a1 z1.length c1 z1 rfl rfl HT3.out (by omega) HB4.out.size _ rfl ?_)
      intro v4 w4 r4 g4 l4
      rw [← List.length_append] at r4
      have HB5 := Lib.hid (HB4.out.grown g4 HB4.out.size (fun g hg => (HR3.out.lt g hg).1))
      have hbn : (al ++ z1).length ≤ 500000 := by rw [List.length_append]; omega
      have hb2 := HSc.out
      rw [HAl.out] at hb2
      obtain ⟨bl, hbl⟩ : ∃ bl, al ++ z1 = bl := ⟨_, rfl⟩
      rw [hbl] at r4 hbn hb2
      obtain ⟨A4, c4, rfl, hc4, hr4, -, -⟩ := r4.rd
      have hC := C.scan_ A4 c4 bl w4 hr4 hc4 hbn (HTab.out.below (HB3.out.trans (HB5.out.mono HB3.out.size)))
      rw [hb2] at hC
      dsimp only at hC
      rw [Int.natCast_add] at hC
      obtain ⟨q, hq⟩ : ∃ q, scanR z1 = q := ⟨_, rfl⟩
      obtain ⟨qm, qk⟩ := q
      have HQ := Lib.hid hq
      have hqk : qk ≤ 1000 := by have h1 := scanR_le _ z1 (Nat.le_refl _); rw [hq] at h1; dsimp only at h1; omega
      rw [hq] at hC
      dsimp only at hC
      have HC := Lib.hid hC
      have HT4 := Lib.hid (HT.out.below (Nat.le_refl _) (HB3.out.trans (HB5.out.mono HB3.out.size)))
      clear hC hr4 r4 g4 HT3 HR3 l3 l4 HA0 hb2 hbl hbn hc4 hq
      go_wp2_with fail
      refine HC.out.mono ?_
      rintro e y1 ⟨D, d, zs, rfl, hld, hll, hrl, hmp, b5⟩
      have HB6 := Lib.hid (HB5.out.trans (b5.mono HB5.out.size))
      have hD := C.scan_ a1 c1 z1 y1 (HT4.out.below (Nat.le_refl _) b5) hlt (by omega) (HTab.out.below (HB3.out.trans (HB6.out.mono HB3.out.size)))
      rw [HQ.out] at hD
      dsimp only at hD
      have HD := Lib.hid hD
      have HRl := Lib.hid hrl
      have HMp := Lib.hid hmp
      clear hD b5 HC hrl hmp
      go_wp2_with fail
      refine HD.out.mono ?_
      rintro e y2 ⟨D2, d2, ys, rfl, hld2, hll2, hrl2, hmp2, b6⟩
      have HB7 := Lib.hid (HB6.out.trans (b6.mono HB6.out.size))
      have hzl : zs.length = z0.length + ys.length := by
        have h1 := congrArg List.length HMp.out
        have h2 := congrArg List.length hmp2
        rw [List.length_append, List.length_map, List.length_map] at h1
        rw [List.length_map] at h2
        omega
      have HRz := Lib.hid (HRl.out.below (Nat.le_refl _) b6)
      have HRy := Lib.hid hrl2
      have hsplit : (zs.take z0.length).map pairL = z0.map pairL ∧ (zs.drop z0.length).map pairL = ys.map pairL := by
        rw [List.map_take, List.map_drop, HMp.out, hmp2]
        exact ⟨by rw [List.take_left' (by rw [List.length_map])], by rw [List.drop_left' (by rw [List.length_map])]⟩
      have HSp := Lib.hid hsplit
      have HZl := Lib.hid hzl
      clear hmp2 b6 hrl2 hsplit HD HRl HMp hll hzl HQ HSc HB5 HB6
      obtain ⟨us, hus⟩ : ∃ us, zs.take z0.length = us := ⟨_, rfl⟩
      have husl : us.length = z0.length := by have := HZl.out; rw [← hus, List.length_take]; omega
      have hu9 : us.map pairL = z0.map pairL := by rw [← hus]; exact HSp.out.1
      have hS1 := refSame_any D d us a0 c0 z0 y2 (by rw [← hus]; exact rd_toL HRz.out _) (HR.out.below (Nat.le_refl _) (HB3.out.trans (HB7.out.mono HB3.out.size))) (by have := HZl.out; omega) hlc (by omega) (by omega)
      rw [husl, decide_eq_true hu9] at hS1
      have HS1 := Lib.hid hS1
      clear hS1 hus husl hu9
      have hzi : decide ((zs.length : Int) = (z0.length : Int) + (ys.length : Int)) = true := decide_eq_true (by have := HZl.out; omega)
      have hzd : z0.length ≤ d := by have := HZl.out; omega
      have hzz : z0.length ≤ zs.length := by have := HZl.out; omega
      go_wp2_with fail
      refine HS1.out.mono ?_
      rintro e y3 ⟨rfl, b8⟩
      obtain ⟨vs, hvs⟩ : ∃ vs, zs.drop z0.length = vs := ⟨_, rfl⟩
      have hvsl : vs.length = zs.length - z0.length := by rw [← hvs, List.length_drop]
      have hu9 : vs.map pairL = ys.map pairL := by rw [← hvs]; exact HSp.out.2
      have hS2 := refSame_any (fromL D d z0.length) (d - z0.length) vs D2 d2 ys y3 (by rw [← hvs]; exact rd_fromL (HRz.out.below (Nat.le_refl _) b8) hld hzz) (HRy.out.below (Nat.le_refl _) b8) (by omega) hld2 (by have := HZl.out; omega) (by omega)
      rw [hvsl, decide_eq_true hu9] at hS2
      have HS2 := Lib.hid hS2
      have HB8 := Lib.hid (HB7.out.trans (b8.mono HB7.out.size))
      have hf := slice_fromL y3 D zs.length d z0.length hzz
      clear hS2 hvs hvsl hu9 b8
      go_wp2_with fail
      refine HS2.out.mono ?_
      rintro e y4 ⟨rfl, b9⟩
      have HB9 := Lib.hid (HB8.out.trans (b9.mono HB8.out.size))
      clear b9
      go_wp2_with fail
      go_ret
      exact ⟨rfl, HB3.out.trans (HB9.out.mono HB3.out.size)⟩
      all_goals (exfalso; have h9 := HZl.out; first | omega | (simp_all; done))
  · rw [decide_eq_false hsm] at hS
    have HS := Lib.hid hS
    clear hS hsm
    go_wp2_with fail
    refine HS.out.mono ?_
    rintro e x2 ⟨rfl, rfl⟩
    go_wp2_with fail
    refine (awake_any C _ (HTab.out.below b1)).mono ?_
    rintro e x3 ⟨rfl, b3⟩
    go_wp2_with fail
    go_ret
    exact ⟨rfl, b1.trans (b3.mono b1.size)⟩

set_option maxRecDepth 100000 in
theorem lifted (os : Os) (started : os.Started) (H : Type) (enc : TypeId × Value → H) :
    ReturnsInHanded {} Tryd.checked os 7 .any (fun w args => (Rows.blockJoinsSpec.pre enc Tryd.prog Tryd.f7 [] false w args ∧ laidMetH Tryd.prog Rows.blockJoinsRow.laid w) ∧ sizedMet enc Tryd.prog Tryd.f7 (OpenSpec.ofChange Rows.blockJoinsSpec) false w args) (Rows.blockJoinsSpec.post enc Tryd.prog Tryd.f7 false true false false) := by
  refine returnsInHanded_of_change_and (C := Tryd.checked) (X := fun w _ => laidMetH Tryd.prog Rows.blockJoinsRow.laid w) (fun _ _ _ hh h => h.of_heap hh) own started (by kernel_rfl) Tryd.func7
    (ChangeSpec.witness_shaped (enc := enc) (C := Tryd.checked) (os := os) (X := fun w _ => laidMetH Tryd.prog Rows.blockJoinsRow.laid w) false (World.laidAll Tryd.prog os Rows.blockJoinsRow.laid) #[.slice none 0 0, .slice none 0 0] 8 (World.laidAll_os _ _ _)
      (World.shaped_of_ZipB (by kernel_rfl) (by kernel_rfl)) (by kernel_rfl) (by kernel_rfl) (by kernel_rfl)
      (by rw [MakeChecks.laidMetH_plain _ _ _ (by kernel_rfl)]; exact laidMet_laidAll _ (by kernel_rfl) (by kernel_rfl))) ?_
  intro W base args ds gs before hval0 hW _ _ hL _
  have hval : ∀ (j : Nat) t v, Tryd.f7.params[j]? = some t → args[j]? = some v → Value.okWide Tryd.prog W .any base t v := hval0
  have hW' := hW
  obtain ⟨p, q, hA0, hV, rfl, hfz, hnd⟩ := hW
  have hA : DataW.TrodAll enc Tryd.prog W 0 (fun _ => true) true Tryd.f7.params.toList args.toList ds p := hA0
  rw [Tryd.params7] at hA hval
  obtain ⟨v0, vs0, d0, ds0, p0, q0, hargs, rfl, rfl, h0, r0⟩ := trodAll_cons hA
  obtain ⟨v1, vs1, d1, ds1, p1, q1, rfl, rfl, rfl, h1, r1⟩ := trodAll_cons r0
  obtain ⟨rfl, rfl, rfl⟩ := trodAll_nil r1
  obtain rfl : args = #[v0, v1] := by cases args; simp_all
  obtain ⟨rfl, rfl⟩ := trodVars_none hV
  obtain ⟨a0, l0, c0, rfl⟩ := okWide_slice Tryd.underlying29 (hval 0 29 v0 rfl rfl)
  have tk0 := h0
  have lt0 : ∀ x ∈ p0, x.block < W.heap.size := by obtain ⟨m, hm⟩ := tk0; exact DataW.trod_lt m _ _ _ hm
  obtain ⟨z0, w0⟩ : ∃ zs, SlcL W a0 l0 c0 zs := by
    obtain ⟨fuel, hf⟩ := h0
    exact open_blks (by simpa [Value.cells] using hf)
  obtain ⟨a1, l1, c1, rfl⟩ := okWide_slice Tryd.underlying24 (hval 1 24 v1 rfl rfl)
  have tk1 := h1
  have lt1 : ∀ x ∈ p1, x.block < W.heap.size := by obtain ⟨m, hm⟩ := tk1; exact DataW.trod_lt m _ _ _ hm
  obtain ⟨z1, w1⟩ : ∃ zs, SlcY W a1 l1 c1 zs := by
    obtain ⟨fuel, hf⟩ := h1
    exact open_bs1 (by simpa [Value.cells] using hf)
  clear hA0 hval0
  rw [MakeChecks.laidMetH_plain _ _ _ (by kernel_rfl)] at hL
  have hT : Tabs W := tabs_of_laid hL
  refine (walk a0 l0 c0 z0 a1 l1 c1 z1  W w0 w1 hT).mono fun e W' ⟨he, bel⟩ => ?_
  subst he
  exact ⟨_, rfl, _, _, _, [], _, [], hW', trodAll_mk1 (shut_bool Tryd.underlying4 _), (trodAll_cons_mk (Below.trod laidOut (by kernel_rfl) (of_decide_eq_true (by kernel_rfl)) tk0 bel lt0) (trodAll_cons_mk (Below.trod laidOut (by kernel_rfl) (of_decide_eq_true (by kernel_rfl)) tk1 bel lt1) trodAll_mk0)), rfl, bel.frame _, fun h => by cases h⟩

theorem over : Rows.blockJoinsRow.holds Tryd.pinned (OpenSpec.ofChange Rows.blockJoinsSpec) :=
  OpenClaim.holds_of_wide 7 Tryd.f7 rfl rfl rfl rfl rfl rfl rfl ⟨rfl, rfl, rfl, rfl, rfl⟩ rfl rfl rfl rfl rfl (by kernel_rfl) Tryd.func7 (by kernel_rfl)
    (of_decide_eq_true (by kernel_rfl)) (by unfold Func.isWrapper; first | (rw [if_pos (by decide +kernel)]; kernel_rfl) | (rw [if_neg (by decide +kernel)]; exact ⟨rfl, rfl⟩))
    (fun os started H enc _ => lifted os started H enc)
theorem proved : Rows.BlockJoinsCardSaid :=
  Claim7.holds_tied_plain_at .later [] [.data] true _ false
    over (fun _ h => by cases h) (by kernel_rfl) (fun _ h => by cases h) blockJoins_row_tie rfl ⟨rfl, rfl⟩ (by kernel_rfl) rfl
    (fun f fn hf hfn => by
      obtain rfl : f = 7 := Option.some.inj ((show Tryd.prog.funcNamed "cobweb/cobweblaw08.BlockJoins" = some 7 by kernel_rfl).symm.trans hf) |>.symm
      obtain rfl : fn = Tryd.f7 := (Option.some.inj (Tryd.func7.symm.trans hfn)).symm
      exact ⟨by kernel_rfl, fun j t ht => by
        rw [Tryd.params7] at ht
        have hm : t ∈ [29, 24] := by simpa using Array.mem_of_getElem? ht
        have hall : ([29, 24].all fun u => !Tryd.prog.wantsStandIn u) = true := by kernel_rfl
        exact (show Tryd.prog.wantsStandIn t = false by simpa using List.all_eq_true.1 hall t hm)⟩)
    (by kernel_rfl)
end Go.Proofs.YtpmmbbkomikceaaDoor.blockJoins
