/- Of any bytes the program takes and scans what the document says. -/
import Derived.Test.YtpmmbbkomikceaaDoorBlDoor
import Derived.Test.YtpmmbbkomikceaaDoorBlCode4
import Derived.Test.YtpmmbbkomikceaaDoorBlAwake
import Derived.Test.YtpmmbbkomikceaaDoorBlMath
import Derived.Test.YtpmmbbkomikceaaDoorBlCutG
import Derived.Test.YtpmmbbkomikceaaDoorPass
namespace Go.Proofs.YtpmmbbkomikceaaDoor.blockTakes
open Go.ChangeShapes Go.WideShapes Go.ChangeAt Go.RowKit
open Go.ChangeMaps (open_string shut_string)
set_option linter.unusedVariables false

set_option maxHeartbeats 40000000 in
set_option maxRecDepth 100000 in
theorem walk (a0 : Option Addr) (l0 c0 : Nat) (z0 : List UInt8)  (w : World) (w0 : SlcY w a0 l0 c0 z0) (hT : Tabs w) :
    Calls Tryd.prog 5 #[.slice a0 l0 c0] w fun e w' => e = .returned (.bool true) ∧ Below w.heap.size w w' := by
  obtain ⟨rfl, hlc, hrd⟩ := w0
  have HR := Lib.hid hrd
  have C := blSpec_is
  have HTab := Lib.hid hT
  clear hT
  clear hrd
  go_enter Tryd.func5, Tryd.ntmps5
  go_wp2_with fail
  refine (awake_any C _ HTab.out).mono ?_
  rintro e x1 ⟨rfl, b1⟩
  have HB1 := Lib.hid b1
  by_cases hbig : 2000 < z0.length
  · have hbigi : (2000 : Int) < (z0.length : Int) := by omega
    go_wp2_with fail
    refine (awake_any C _ (HTab.out.below b1)).mono ?_
    rintro e x3 ⟨rfl, b3⟩
    go_wp2_with fail
    go_ret
    exact ⟨rfl, b1.trans (b3.mono b1.size)⟩
  · have hbigi : ¬ ((2000 : Int) < (z0.length : Int)) := by omega
    have hA0 : Below x1.heap.size x1 (x1.alloc (.cells #[] 5)) := (Below.refl x1.heap.size x1).alloc (Nat.le_refl _) _
    have HA0 := Lib.hid hA0
    have hR0 : layB.Row 5 (x1.alloc (.cells #[] 5)) x1.heap.size (.slice (some ⟨x1.heap.size, 0, none⟩) 0 0) 0 [] := LayG.Row.lit x1 #[] [] rfl (by decide)
    have HR0 := Lib.hid hR0
    have hRa := HR.out.below (Nat.le_refl _) (b1.trans (hA0.mono b1.size))
    have HRa := Lib.hid hRa
    clear hA0 hR0 hRa b1
    go_wp2_with (at_builtin; refine wpList_append_G typB rfl _ _ rfl x1.heap.size (.slice (some ⟨x1.heap.size, 0, none⟩) 0 0) 0 [] rfl HR0.out a0 z0.length c0 z0 rfl rfl HRa.out (by show 0 + z0.length ≤ 1000000; omega) HA0.out.size _ rfl ?_)
    intro v3 w3 r3 g3 l3
    have HB4 := Lib.hid (HA0.out.grown g3 HA0.out.size (fun g hg => (HR0.out.lt g hg).1))
    obtain ⟨A4, c4, rfl, hc4, hr4, -, -⟩ := r3.rd
    have HT := Lib.hid (C.take_ A4 c4 z0 w3 hr4 hc4 (by omega) (HTab.out.below (HB1.out.trans (HB4.out.mono HB1.out.size))))
    clear r3 g3 HR0 HRa hc4 hr4 l3 HA0
    go_wp2_with fail
    refine HT.out.mono ?_
    rintro e y1 ⟨b4, hres⟩
    have HB5 := Lib.hid (HB4.out.trans (b4.mono HB4.out.size))
    clear b4 HT
    obtain ⟨kd, bd, a5, cc5, n5, ee, hx, hok⟩ : ∃ (kd : UInt8) (bd : List UInt8) (a5 : Option Addr) (cc5 n5 : Nat) (ee : Nat), e = .returned (.tuple #[.agg #[.int .u8 (kd.toNat : Int), .slice a5 bd.length cc5], .int .i64 (n5 : Int), .int .i64 (ee : Int)]) ∧
      (bd.length ≤ cc5 ∧ layB.Rd y1 a5 bd ∧ ee = takeE z0 ∧ (takeE z0 = 0 → kd = z0.getD 1 default ∧ bd = (z0.drop 6).take (lenR z0) ∧ n5 = lenR z0 + 10) ∧ (takeE z0 ≠ 0 → kd = 0 ∧ bd = [] ∧ n5 = 0)) := by
      rcases hres with ⟨h0, a, cc, rfl⟩ | ⟨h0, a, cc, rfl, hcc, hrd⟩
      · exact ⟨0, [], a, cc, 0, takeE z0, rfl, Nat.zero_le _, LayG.Rd.nothing _, rfl, fun h => absurd h h0, fun _ => ⟨rfl, rfl, rfl⟩⟩
      · have hl : ((z0.drop 6).take (lenR z0)).length = lenR z0 := by have := takeE_len h0; rw [List.length_take, List.length_drop]; omega
        exact ⟨z0.getD 1 default, (z0.drop 6).take (lenR z0), a, cc, lenR z0 + 10, 0, by rw [hl]; rfl, by rw [hl]; exact hcc, hrd, h0.symm, fun _ => ⟨rfl, rfl, rfl⟩, fun h => absurd h0 h⟩
    subst hx
    obtain ⟨hbd, hra, hee, h0, h1⟩ := hok
    subst hee
    have hB6 := HB5.out.alloc HB5.out.size (.cells #[.int .u8 (kd.toNat : Int), .slice a5 bd.length cc5] 40)
    have hz1 : layL.Rd (y1.alloc (.cells #[.int .u8 (kd.toNat : Int), .slice a5 bd.length cc5] 40)) (some ⟨y1.heap.size, 0, none⟩) [⟨kd, ⟨a5, cc5, bd⟩⟩] := LayG.Rd.lit y1 _ _ rfl (by show 1 ≤ maxLen; decide)
    have hr1 := hra.below (Nat.le_refl _) ((Below.refl y1.heap.size y1).alloc (Nat.le_refl _) (.cells #[.int .u8 (kd.toNat : Int), .slice a5 bd.length cc5] 40))
    have HF := Lib.hid (refTake_any a0 c0 z0 _ (HR.out.below (Nat.le_refl _) (HB1.out.trans (hB6.mono HB1.out.size))) hlc (by omega))
    have HH := Lib.hid (And.intro h0 h1)
    have HZ1 := Lib.hid (And.intro hz1 (And.intro hr1 hB6))
    clear hz1 hr1 hB6 h0 h1 hra HB5 hres
    go_wp2_with fail
    refine HF.out.mono ?_
    rintro e y2 hT
    obtain ⟨a6, cc6, hx, hc6, hr6, b5⟩ : ∃ a6 cc6, e = .returned (.tuple #[.agg #[.int .u8 (kd.toNat : Int), .slice a6 bd.length cc6], .int .i64 (n5 : Int), .int .i64 (takeE z0 : Nat)]) ∧ bd.length ≤ cc6 ∧ layB.Rd y2 a6 bd ∧ Below (y1.alloc (.cells #[.int .u8 (kd.toNat : Int), .slice a5 bd.length cc5] 40)).heap.size (y1.alloc (.cells #[.int .u8 (kd.toNat : Int), .slice a5 bd.length cc5] 40)) y2 := by
      rcases hT with ⟨h0, rfl, hb⟩ | ⟨h0, ⟨a, cc, rfl, hcc, hrd⟩, hb⟩
      · obtain ⟨rfl, rfl, rfl⟩ := HH.out.2 h0
        exact ⟨none, 0, rfl, Nat.le_refl _, LayG.Rd.nothing _, hb⟩
      · obtain ⟨hk, hbb, hn⟩ := HH.out.1 h0
        have hl : ((z0.drop 6).take (lenR z0)).length = lenR z0 := by have := takeE_len h0; rw [List.length_take, List.length_drop]; omega
        refine ⟨a, cc, ?_, by rw [hbb, hl]; exact hcc, by rw [hbb]; exact hrd _ (HR.out.below (Nat.le_refl _) (HB1.out.trans ((HZ1.out.2.2.trans (hb.mono HZ1.out.2.2.size)).mono HB1.out.size))), hb⟩
        rw [h0, hk, hn, hbb, hl]
        rfl
    subst hx
    have hb2 := b5.alloc b5.size (.cells #[.int .u8 (kd.toNat : Int), .slice a6 bd.length cc6] 40)
    have hz1 := HZ1.out.1.below (Nat.le_refl _) hb2
    have hz2 : layL.Rd (y2.alloc (.cells #[.int .u8 (kd.toNat : Int), .slice a6 bd.length cc6] 40)) (some ⟨y2.heap.size, 0, none⟩) [⟨kd, ⟨a6, cc6, bd⟩⟩] := LayG.Rd.lit y2 _ _ rfl (by show 1 ≤ maxLen; decide)
    have k0 : (y2.alloc (.cells #[.int .u8 (kd.toNat : Int), .slice a6 bd.length cc6] 40)).cell? { block := y1.heap.size, off := 0 } = some (.int .u8 (kd.toNat : Int)) := hz1.news 0 _ rfl
    have k1 : (y2.alloc (.cells #[.int .u8 (kd.toNat : Int), .slice a6 bd.length cc6] 40)).cell? { block := y1.heap.size, off := 1 } = some (.slice a5 bd.length cc5) := hz1.news 1 _ rfl
    clear HF hT
    have hA : layL.Rd ((y2.alloc (.cells #[.int .u8 (kd.toNat : Int), .slice a6 bd.length cc6] 40)).alloc (.cells #[.int .u8 (kd.toNat : Int), .slice a5 bd.length cc5] 40)) (some ⟨(y2.alloc (.cells #[.int .u8 (kd.toNat : Int), .slice a6 bd.length cc6] 40)).heap.size, 0, none⟩) [⟨kd, ⟨a5, cc5, bd⟩⟩] := LayG.Rd.lit _ _ _ rfl (by show 1 ≤ maxLen; decide)
    have hA2 := hA.below (Nat.le_refl _) ((Below.refl ((y2.alloc (.cells #[.int .u8 (kd.toNat : Int), .slice a6 bd.length cc6] 40)).alloc (.cells #[.int .u8 (kd.toNat : Int), .slice a5 bd.length cc5] 40)).heap.size ((y2.alloc (.cells #[.int .u8 (kd.toNat : Int), .slice a6 bd.length cc6] 40)).alloc (.cells #[.int .u8 (kd.toNat : Int), .slice a5 bd.length cc5] 40))).alloc (Nat.le_refl _) (.cells #[.int .u8 (kd.toNat : Int), .slice a6 bd.length cc6] 40))
    have hC : layL.Rd (((y2.alloc (.cells #[.int .u8 (kd.toNat : Int), .slice a6 bd.length cc6] 40)).alloc (.cells #[.int .u8 (kd.toNat : Int), .slice a5 bd.length cc5] 40)).alloc (.cells #[.int .u8 (kd.toNat : Int), .slice a6 bd.length cc6] 40)) (some ⟨((y2.alloc (.cells #[.int .u8 (kd.toNat : Int), .slice a6 bd.length cc6] 40)).alloc (.cells #[.int .u8 (kd.toNat : Int), .slice a5 bd.length cc5] 40)).heap.size, 0, none⟩) [⟨kd, ⟨a6, cc6, bd⟩⟩] := LayG.Rd.lit _ _ _ rfl (by show 1 ≤ maxLen; decide)
    have hb3 := hb2.alloc hb2.size (.cells #[.int .u8 (kd.toNat : Int), .slice a5 bd.length cc5] 40)
    have hb4 := hb3.alloc hb3.size (.cells #[.int .u8 (kd.toNat : Int), .slice a6 bd.length cc6] 40)
    have e1 := (Below.refl y2.heap.size y2).alloc (Nat.le_refl _) (.cells #[.int .u8 (kd.toNat : Int), .slice a6 bd.length cc6] 40)
    have e2 := e1.alloc e1.size (.cells #[.int .u8 (kd.toNat : Int), .slice a5 bd.length cc5] 40)
    have e3 := e2.alloc e2.size (.cells #[.int .u8 (kd.toNat : Int), .slice a6 bd.length cc6] 40)
    have hS := refSame_any (some ⟨(y2.alloc (.cells #[.int .u8 (kd.toNat : Int), .slice a6 bd.length cc6] 40)).heap.size, 0, none⟩) 1 [⟨kd, ⟨a5, cc5, bd⟩⟩] (some ⟨((y2.alloc (.cells #[.int .u8 (kd.toNat : Int), .slice a6 bd.length cc6] 40)).alloc (.cells #[.int .u8 (kd.toNat : Int), .slice a5 bd.length cc5] 40)).heap.size, 0, none⟩) 1 [⟨kd, ⟨a6, cc6, bd⟩⟩] (((y2.alloc (.cells #[.int .u8 (kd.toNat : Int), .slice a6 bd.length cc6] 40)).alloc (.cells #[.int .u8 (kd.toNat : Int), .slice a5 bd.length cc5] 40)).alloc (.cells #[.int .u8 (kd.toNat : Int), .slice a6 bd.length cc6] 40)) ⟨hA2, fun z hz => by rw [List.mem_singleton] at hz; subst hz; exact ⟨hbd, HZ1.out.2.1.below (Nat.le_refl _) hb4⟩⟩ ⟨hC, fun z hz => by rw [List.mem_singleton] at hz; subst hz; exact ⟨hc6, hr6.below (Nat.le_refl _) e3⟩⟩ (Nat.le_refl _) (Nat.le_refl _) (by show 1 ≤ 100000; decide) (by show 1 ≤ 100000; decide)
    have s1 : (y2.alloc (.cells #[.int .u8 (kd.toNat : Int), .slice a6 bd.length cc6] 40)).heap.size = y2.heap.size + 1 := Array.size_push _
    have s2 : ((y2.alloc (.cells #[.int .u8 (kd.toNat : Int), .slice a6 bd.length cc6] 40)).alloc (.cells #[.int .u8 (kd.toNat : Int), .slice a5 bd.length cc5] 40)).heap.size = y2.heap.size + 1 + 1 := (Array.size_push _).trans (congrArg (· + 1) (Array.size_push _))
    rw [decide_eq_true (show [(⟨kd, ⟨a5, cc5, bd⟩⟩ : BlZ)].map pairL = [(⟨kd, ⟨a6, cc6, bd⟩⟩ : BlZ)].map pairL from rfl), s1, s2] at hS
    have HS := Lib.hid hS
    have hbx := HZ1.out.2.2.trans (hb4.mono HZ1.out.2.2.size)
    have HBX := Lib.hid hbx
    clear hS hA hA2 hC hb3 hb4 e1 e2 e3 s1 s2 hbx hz1 hz2 hb2 b5
    go_wp2_with fail
    refine HS.out.mono ?_
    rintro e y3 ⟨rfl, b7⟩
    have HB7 := Lib.hid (HB1.out.trans ((HBX.out.trans (b7.mono HBX.out.size)).mono HB1.out.size))
    obtain ⟨q, hq⟩ : ∃ q, scanR z0 = q := ⟨_, rfl⟩
    obtain ⟨qm, qk⟩ := q
    have HQ := Lib.hid hq
    have hS := C.scan_ a0 c0 z0 y3 (HR.out.below (Nat.le_refl _) HB7.out) hlc (by omega) (HTab.out.below HB7.out)
    rw [hq] at hS
    dsimp only at hS
    have HC := Lib.hid hS
    clear hS hq b7 HS HBX HZ1 HH k0 k1 hc6 hr6 hbd
    go_wp2_with fail
    refine HC.out.mono ?_
    rintro e y4 ⟨D, d, zs, rfl, hld, hll, hrl, hmp, b8⟩
    have HB8 := Lib.hid (HB7.out.trans (b8.mono HB7.out.size))
    have HRl := Lib.hid hrl
    have HMp := Lib.hid hmp
    have hS := refScan_any a0 c0 z0 y4 (HR.out.below (Nat.le_refl _) HB8.out) hlc (by omega)
    rw [HQ.out] at hS
    dsimp only at hS
    have HC2 := Lib.hid hS
    clear hS b8 HC hrl hmp
    go_wp2_with fail
    refine HC2.out.mono ?_
    rintro e y5 ⟨D2, d2, ys, rfl, hld2, hll2, hrl2, hmp2, b9⟩
    have HB9 := Lib.hid (HB8.out.trans (b9.mono HB8.out.size))
    have hS := refSame_any D d zs D2 d2 ys y5 (HRl.out.below (Nat.le_refl _) b9) hrl2 hld hld2 (by omega) (by omega)
    rw [decide_eq_true (HMp.out.trans hmp2.symm)] at hS
    have HS := Lib.hid hS
    clear hS b9 HC2 hrl2 hmp2
    go_wp2_with fail
    refine HS.out.mono ?_
    rintro e y6 ⟨rfl, b10⟩
    have HB10 := Lib.hid (HB9.out.trans (b10.mono HB9.out.size))
    clear b10
    go_wp2_with fail
    go_ret
    exact ⟨rfl, HB10.out⟩

set_option maxRecDepth 100000 in
theorem lifted (os : Os) (started : os.Started) (H : Type) (enc : TypeId × Value → H) :
    ReturnsInHanded {} Tryd.checked os 5 .any (fun w args => (Rows.blockTakesSpec.pre enc Tryd.prog Tryd.f5 [] false w args ∧ laidMetH Tryd.prog Rows.blockTakesRow.laid w) ∧ sizedMet enc Tryd.prog Tryd.f5 (OpenSpec.ofChange Rows.blockTakesSpec) false w args) (Rows.blockTakesSpec.post enc Tryd.prog Tryd.f5 false true false false) := by
  refine returnsInHanded_of_change_and (C := Tryd.checked) (X := fun w _ => laidMetH Tryd.prog Rows.blockTakesRow.laid w) (fun _ _ _ hh h => h.of_heap hh) own started (by kernel_rfl) Tryd.func5
    (ChangeSpec.witness_shaped (enc := enc) (C := Tryd.checked) (os := os) (X := fun w _ => laidMetH Tryd.prog Rows.blockTakesRow.laid w) false (World.laidAll Tryd.prog os Rows.blockTakesRow.laid) #[.slice none 0 0] 8 (World.laidAll_os _ _ _)
      (World.shaped_of_ZipB (by kernel_rfl) (by kernel_rfl)) (by kernel_rfl) (by kernel_rfl) (by kernel_rfl)
      (by rw [MakeChecks.laidMetH_plain _ _ _ (by kernel_rfl)]; exact laidMet_laidAll _ (by kernel_rfl) (by kernel_rfl))) ?_
  intro W base args ds gs before hval0 hW _ _ hL _
  have hval : ∀ (j : Nat) t v, Tryd.f5.params[j]? = some t → args[j]? = some v → Value.okWide Tryd.prog W .any base t v := hval0
  have hW' := hW
  obtain ⟨p, q, hA0, hV, rfl, hfz, hnd⟩ := hW
  have hA : DataW.TrodAll enc Tryd.prog W 0 (fun _ => true) true Tryd.f5.params.toList args.toList ds p := hA0
  rw [Tryd.params5] at hA hval
  obtain ⟨v0, vs0, d0, ds0, p0, q0, hargs, rfl, rfl, h0, r0⟩ := trodAll_cons hA
  obtain ⟨rfl, rfl, rfl⟩ := trodAll_nil r0
  obtain rfl : args = #[v0] := by cases args; simp_all
  obtain ⟨rfl, rfl⟩ := trodVars_none hV
  obtain ⟨a0, l0, c0, rfl⟩ := okWide_slice Tryd.underlying24 (hval 0 24 v0 rfl rfl)
  have tk0 := h0
  have lt0 : ∀ x ∈ p0, x.block < W.heap.size := by obtain ⟨m, hm⟩ := tk0; exact DataW.trod_lt m _ _ _ hm
  obtain ⟨z0, w0⟩ : ∃ zs, SlcY W a0 l0 c0 zs := by
    obtain ⟨fuel, hf⟩ := h0
    exact open_bs1 (by simpa [Value.cells] using hf)
  clear hA0 hval0
  rw [MakeChecks.laidMetH_plain _ _ _ (by kernel_rfl)] at hL
  have hT : Tabs W := tabs_of_laid hL
  refine (walk a0 l0 c0 z0  W w0 hT).mono fun e W' ⟨he, bel⟩ => ?_
  subst he
  exact ⟨_, rfl, _, _, _, [], _, [], hW', trodAll_mk1 (shut_bool Tryd.underlying4 _), (trodAll_cons_mk (Below.trod laidOut (by kernel_rfl) (of_decide_eq_true (by kernel_rfl)) tk0 bel lt0) trodAll_mk0), rfl, bel.frame _, fun h => by cases h⟩

theorem over : Rows.blockTakesRow.holds Tryd.pinned (OpenSpec.ofChange Rows.blockTakesSpec) :=
  OpenClaim.holds_of_wide 5 Tryd.f5 rfl rfl rfl rfl rfl rfl rfl ⟨rfl, rfl, rfl, rfl, rfl⟩ rfl rfl rfl rfl rfl (by kernel_rfl) Tryd.func5 (by kernel_rfl)
    (of_decide_eq_true (by kernel_rfl)) (by unfold Func.isWrapper; first | (rw [if_pos (by decide +kernel)]; kernel_rfl) | (rw [if_neg (by decide +kernel)]; exact ⟨rfl, rfl⟩))
    (fun os started H enc _ => lifted os started H enc)
theorem proved : Rows.BlockTakesCardSaid :=
  Claim7.holds_tied_plain_at .later [] [.data] true _ false
    over (fun _ h => by cases h) (by kernel_rfl) (fun _ h => by cases h) blockTakes_row_tie rfl ⟨rfl, rfl⟩ (by kernel_rfl) rfl
    (fun f fn hf hfn => by
      obtain rfl : f = 5 := Option.some.inj ((show Tryd.prog.funcNamed "cobweb/cobweblaw08.BlockTakes" = some 5 by kernel_rfl).symm.trans hf) |>.symm
      obtain rfl : fn = Tryd.f5 := (Option.some.inj (Tryd.func5.symm.trans hfn)).symm
      exact ⟨by kernel_rfl, fun j t ht => by
        rw [Tryd.params5] at ht
        have hm : t ∈ [24] := by simpa using Array.mem_of_getElem? ht
        have hall : ([24].all fun u => !Tryd.prog.wantsStandIn u) = true := by kernel_rfl
        exact (show Tryd.prog.wantsStandIn t = false by simpa using List.all_eq_true.1 hall t hm)⟩)
    (by kernel_rfl)
end Go.Proofs.YtpmmbbkomikceaaDoor.blockTakes
