/- Unlike right lists have unlike bytes, and none are how another one begins: at every input of the tied card, with no condition beyond it. -/
import Derived.Test.YtgacphpkgaobkaaDoorDoor
import Derived.Test.YtgacphpkgaobkaaDoorPropLaws2
import Derived.Test.YtgacphpkgaobkaaDoorPost
namespace Go.Proofs.YtgacphpkgaobkaaDoor.propsApart
open Go.ChangeShapes Go.WideShapes Go.ChangeAt Go.RowKit
open Go.ChangeMaps (open_string shut_string)
set_option linter.unusedVariables false

set_option maxHeartbeats 40000000 in
set_option maxRecDepth 100000 in
theorem walk (a0 : Option Addr) (l0 c0 : Nat) (z0 : List Prop4) (a1 : Option Addr) (l1 c1 : Nat) (z1 : List Prop4)  (w : World) (w0 : SlcP w a0 l0 c0 z0) (w1 : SlcP w a1 l1 c1 z1) (hT : Tabs w) :
    Calls Tryd.prog 7 #[.slice a0 l0 c0, .slice a1 l1 c1] w fun e w' => e = .returned (.bool true) ∧ Below w.heap.size w w' := by
  obtain ⟨rfl, hlc0, hn0, hrd0, hin0⟩ := w0
  obtain ⟨rfl, hlc1, hn1, hrd1, hin1⟩ := w1
  have HT := Lib.hid hT
  have HR0 := Lib.hid hrd0
  have HR1 := Lib.hid hrd1
  have HF0 := Lib.hid (fair_of hin0)
  have HF1 := Lib.hid (fair_of hin1)
  clear hT hrd0 hrd1 hin0 hin1
  go_enter Tryd.func7, Tryd.ntmps7
  go_wp2_with fail
  refine (awake_any _ HT.out).mono ?_
  rintro e x1 ⟨rfl, b1⟩
  have q0 := small_any a0 c0 z0 x1 (HR0.out.below (Nat.le_refl _) b1) hlc0
  cases hs0 : smallP z0 with
  | false =>
    rw [hs0] at q0
    have C0 := Lib.hid q0
    clear q0 hs0
    go_wp2_with fail
    refine C0.out.mono ?_
    rintro e x2 ⟨rfl, rfl⟩
    go_wp2_with fail
    refine (awake_any _ (Utf8Tabs_below HT.out b1)).mono ?_
    rintro e x3 ⟨rfl, b3⟩
    go_wp2_with fail
    go_ret
    exact ⟨rfl, btV b1 b3⟩
  | true =>
    rw [hs0] at q0
    have C0 := Lib.hid q0
    have HS0 := Lib.hid hs0
    clear q0 hs0
    go_wp2_with fail
    refine C0.out.mono ?_
    rintro e x2 ⟨rfl, rfl⟩
    have q1 := small_any a1 c1 z1 x1 (HR1.out.below (Nat.le_refl _) b1) hlc1
    cases hs1 : smallP z1 with
    | false =>
      rw [hs1] at q1
      have C1 := Lib.hid q1
      clear q1 hs1
      go_wp2_with fail
      refine C1.out.mono ?_
      rintro e x2 ⟨rfl, rfl⟩
      go_wp2_with fail
      refine (awake_any _ (Utf8Tabs_below HT.out b1)).mono ?_
      rintro e x3 ⟨rfl, b3⟩
      go_wp2_with fail
      go_ret
      exact ⟨rfl, btV b1 b3⟩
    | true =>
      rw [hs1] at q1
      have C1 := Lib.hid q1
      have HS1 := Lib.hid hs1
      clear q1 hs1
      go_wp2_with fail
      refine C1.out.mono ?_
      rintro e x2 ⟨rfl, rfl⟩
      have hl0 := (small_mem HS0.out).1
      have hl1 := (small_mem HS1.out).1
      have hk0 : ∀ k, k < z0.length → (z0.getD k Prop4.no).1.size ≤ 1000000 := fun k hk => (small_big HS0.out _ (by rw [List.getD_eq_getElem?_getD, List.getElem?_eq_getElem hk]; exact List.getElem_mem hk)).1
      have hk1 : ∀ k, k < z1.length → (z1.getD k Prop4.no).1.size ≤ 1000000 := fun k hk => (small_big HS1.out _ (by rw [List.getD_eq_getElem?_getD, List.getElem?_eq_getElem hk]; exact List.getElem_mem hk)).1
      have r0 := refRightP_any a0 c0 z0 x1 (HR0.out.below (Nat.le_refl _) b1) hlc0 hk0
      have HK1 := Lib.hid hk1
      clear hk0 hk1
      cases hr0 : rightP z0 with
      | false =>
        rw [hr0] at r0
        have R0 := Lib.hid r0
        clear r0 hr0
        go_wp2_with fail
        refine R0.out.mono ?_
        rintro e x2 ⟨rfl, b2⟩
        have B2 := btV b1 b2
        go_wp2_with fail
        refine (awake_any _ (Utf8Tabs_below HT.out B2)).mono ?_
        rintro e x3 ⟨rfl, b3⟩
        go_wp2_with fail
        go_ret
        exact ⟨rfl, btV B2 b3⟩
      | true =>
        rw [hr0] at r0
        have R0 := Lib.hid r0
        have HP0 := Lib.hid hr0
        clear r0 hr0
        go_wp2_with fail
        refine R0.out.mono ?_
        rintro e x2 ⟨rfl, b2⟩
        have B2 := btV b1 b2
        have r1 := refRightP_any a1 c1 z1 x2 (HR1.out.below (Nat.le_refl _) B2) hlc1 HK1.out
        cases hr1 : rightP z1 with
        | false =>
          rw [hr1] at r1
          have R1 := Lib.hid r1
          clear r1 hr1
          go_wp2_with fail
          refine R1.out.mono ?_
          rintro e x3 ⟨rfl, b3⟩
          have B3 := btV B2 b3
          go_wp2_with fail
          refine (awake_any _ (Utf8Tabs_below HT.out B3)).mono ?_
          rintro e x4 ⟨rfl, b4⟩
          go_wp2_with fail
          go_ret
          exact ⟨rfl, btV B3 b4⟩
        | true =>
          rw [hr1] at r1
          have R1 := Lib.hid r1
          have HP1 := Lib.hid hr1
          clear r1 hr1
          go_wp2_with fail
          refine R1.out.mono ?_
          rintro e x3 ⟨rfl, b3⟩
          have B3 := btV B2 b3
          have d0 := propsBytes_any a0 c0 z0 x3 (HR0.out.below (Nat.le_refl _) B3) (by omega) (smallP_of HF0.out HS0.out) (Utf8Tabs_below HT.out B3)
          have hpos0 : 0 < (propsB z0).length := by unfold propsB; simp
          have hpos1 : 0 < (propsB z1).length := by unfold propsB; simp
          have hap : z0 ≠ z1 → (propsB z0).take (min (propsB z0).length (propsB z1).length) ≠ (propsB z1).take (min (propsB z0).length (propsB z1).length) := fun hne h => hne (propsB_apart HF0.out HF1.out HP0.out HP1.out h)
          have hsame : z0 = z1 → (propsB z0).take (min (propsB z0).length (propsB z1).length) = (propsB z1).take (min (propsB z0).length (propsB z1).length) := fun h => by rw [h]
          unfold PBytesPost at d0
          rw [HP0.out] at d0
          simp only [if_true] at d0
          obtain ⟨lb, hlb⟩ : ∃ l, (propsB z1).length = l := ⟨_, rfl⟩
          obtain ⟨la, hla⟩ : ∃ l, (propsB z0).length = l := ⟨_, rfl⟩
          rw [hla] at d0 hpos0
          rw [hlb] at hpos1
          rw [hla, hlb] at hap hsame
          have D0 := Lib.hid d0
          have HAp := Lib.hid hap
          have HSm := Lib.hid hsame
          have HLb := Lib.hid hlb
          have HLa := Lib.hid hla
          clear d0 hap hsame hlb hla
          go_wp2_with fail
          refine D0.out.mono ?_
          rintro e x4 ⟨va, rfl, r4, b4⟩
          have B4 := btV B3 b4
          have d1 := propsBytes_any a1 c1 z1 x4 (HR1.out.below (Nat.le_refl _) B4) (by omega) (smallP_of HF1.out HS1.out) (Utf8Tabs_below HT.out B4)
          unfold PBytesPost at d1
          rw [HP1.out] at d1
          simp only [if_true] at d1
          rw [HLb.out] at d1
          have D1 := Lib.hid d1
          clear d1
          obtain ⟨g0, cap0, rfl⟩ := URow.form r4 hpos0
          go_wp2_with fail
          refine D1.out.mono ?_
          rintro e x5 ⟨vb, rfl, t5, b5⟩
          have B5 := btV B4 b5
          have r5 := r4.belowP b5
          obtain ⟨g1, cap1, rfl⟩ := URow.form t5 hpos1
          have hca := URow.cap r5
          have hcb := URow.cap t5
          obtain ⟨m, hm⟩ : ∃ m, min la lb = m := ⟨_, rfl⟩
          have hmi2 : min (la : Int) (lb : Int) = (m : Int) := by omega
          have hma : m ≤ la := by omega
          have hmb : m ≤ lb := by omega
          have hma' : (m : Int) ≤ (cap0 : Int) := by omega
          have hmb' : (m : Int) ≤ (cap1 : Int) := by omega
          have HAp2 : Hid (z0 ≠ z1 → (propsB z0).take m ≠ (propsB z1).take m) := Lib.hid (by have := HAp.out; rwa [hm] at this)
          have HSm2 : Hid (z0 = z1 → (propsB z0).take m = (propsB z1).take m) := Lib.hid (by have := HSm.out; rwa [hm] at this)
          have HR5 := Lib.hid r5
          have HT5 := Lib.hid t5
          clear r4 r5 t5
          have sm := refSame_any a0 a1 c0 c1 z0 z1 x5 (HR0.out.below (Nat.le_refl _) B5) (HR1.out.below (Nat.le_refl _) B5) hlc0 hlc1 (by omega) (by omega)
          obtain ⟨b, hb⟩ : ∃ b, decide (z0 = z1) = b := ⟨_, rfl⟩
          rw [hb] at sm
          have SM := Lib.hid sm
          have HB := Lib.hid hb
          clear sm hb
          go_wp2_with fail
          refine SM.out.mono ?_
          rintro e x6 ⟨rfl, b6⟩
          have B6 := btV B5 b6
          have r6 := HR5.out.belowP b6
          have t6 := HT5.out.belowP b6
          have dd := (Below.refl x6.heap.size x6).drew
          have sn := propsSame_any a0 a1 c0 c1 z0 z1 x6.drew ((HR0.out.below (Nat.le_refl _) B6).below (Nat.le_refl _) dd) ((HR1.out.below (Nat.le_refl _) B6).below (Nat.le_refl _) dd) (by omega) (by omega)
          rw [HB.out] at sn
          have SN := Lib.hid sn
          obtain ⟨PA, hPA⟩ : ∃ p : ByteArray, (⟨((propsB z0).take m).toArray⟩ : ByteArray) = p := ⟨_, rfl⟩
          obtain ⟨PB, hPB⟩ : ∃ p : ByteArray, (⟨((propsB z1).take m).toArray⟩ : ByteArray) = p := ⟨_, rfl⟩
          have heq : (PA.toList == PB.toList) = b := by
            rw [← hPA, ← hPB, text_eq_of, ← HB.out, Bool.eq_iff_iff, decide_eq_true_iff, decide_eq_true_iff]
            constructor
            · intro h
              rcases Classical.em (z0 = z1) with h1 | h1
              · exact h1
              · exact absurd h (HAp2.out h1)
            · exact HSm2.out
          have er := conv_takeP r6 m hma
          have et := conv_takeP t6 m hmb
          have erd := conv_takeP (r6.belowP dd) m hma
          have etd := conv_takeP (t6.belowP dd) m hmb
          rw [hPA] at er erd
          rw [hPB] at et etd
          clear sn
          go_wp2_with fail
          go_region_held3 (fun w' => (convert 43 9 (.slice (some ⟨g0, 0, none⟩) m cap0)).run Tryd.prog w' = .ok (.string PA) w' ∧ (convert 43 9 (.slice (some ⟨g1, 0, none⟩) m cap1)).run Tryd.prog w' = .ok (.string PB) w')
            (first | exact ⟨erZ, etZ⟩ | exact ⟨erd, etd⟩ | exact ⟨er, et⟩ | exact ⟨by assumption, by assumption⟩)
            ((first
              | (go_at_call 16; refine SN.out.mono ?_; rintro e xZ ⟨rfl, bZ⟩; have dZ : Below x6.heap.size x6 xZ := dd.trans bZ; have BZ := btV B6 dZ; have erZ := conv_takeP (r6.belowP dZ) m hma; have etZ := conv_takeP (t6.belowP dZ) m hmb; rw [hPA] at erZ; rw [hPB] at etZ)))
          clear er et erd etd erZ etZ
          go_wp2_with fail
          go_ret
          exact ⟨rfl, BZ⟩

set_option maxRecDepth 100000 in
theorem lifted (os : Os) (started : os.Started) (H : Type) (enc : TypeId × Value → H) :
    ReturnsInHanded {} Tryd.checked os 7 .any (fun w args => (Rows.propsApartSpec.pre enc Tryd.prog Tryd.f7 [] false w args ∧ laidMetH Tryd.prog Rows.propsApartRow.laid w) ∧ sizedMet enc Tryd.prog Tryd.f7 (OpenSpec.ofChange Rows.propsApartSpec) false w args) (Rows.propsApartSpec.post enc Tryd.prog Tryd.f7 false true false false) := by
  refine returnsInHanded_of_change_and (C := Tryd.checked) (X := fun w _ => laidMetH Tryd.prog Rows.propsApartRow.laid w) (fun _ _ _ hh h => h.of_heap hh) own started (by kernel_rfl) Tryd.func7
    (ChangeSpec.witness_shaped (enc := enc) (C := Tryd.checked) (os := os) (X := fun w _ => laidMetH Tryd.prog Rows.propsApartRow.laid w) false (World.laidAll Tryd.prog os Rows.propsApartRow.laid) #[.slice none 0 0, .slice none 0 0] 8 (World.laidAll_os _ _ _)
      (World.shaped_of_ZipB (by kernel_rfl) (by kernel_rfl)) (by kernel_rfl) (by kernel_rfl) (by kernel_rfl)
      (by rw [MakeChecks.laidMetH_plain _ _ _ (by kernel_rfl)]; exact laidMet_laidAll _ (by kernel_rfl) (by kernel_rfl))) ?_
  intro W base args ds gs before hval0 hW _ _ hL _
  have hval : ∀ (j : Nat) t v, Tryd.f7.params[j]? = some t → args[j]? = some v → Value.okWide Tryd.prog W .any base t v := hval0
  have hW' := hW
  obtain ⟨p, q, hA0, hV, rfl, hfz, hnd⟩ := hW
  have hA : DataW.TrodAll enc Tryd.prog W 0 (fun _ => true) true Tryd.f7.params.toList args.toList ds p := hA0
  rw [Tryd.params7] at hA hval
  obtain ⟨v0, vs0, d0, ds0, p0, q0, hargs, rfl, rfl, h0, r0⟩ := trodAll_cons hA
  obtain ⟨v1, vs1, d1, ds1, p1, q1, rfl, rfl, rfl, h1, r1⟩ := trodAll_cons r0
  obtain ⟨rfl, rfl, rfl⟩ := trodAll_nil r1
  obtain rfl : args = #[v0, v1] := by cases args; simp_all
  obtain ⟨rfl, rfl⟩ := trodVars_none hV
  obtain ⟨a0, l0, c0, rfl⟩ := okWide_slice Tryd.underlying22 (hval 0 22 v0 rfl rfl)
  have tk0 := h0
  have lt0 : ∀ x ∈ p0, x.block < W.heap.size := by obtain ⟨m, hm⟩ := tk0; exact DataW.trod_lt m _ _ _ hm
  obtain ⟨z0, w0⟩ : ∃ zs, SlcP W a0 l0 c0 zs := by
    obtain ⟨fuel, hf⟩ := h0
    exact open_props (by simpa [Value.cells] using hf)
  obtain ⟨a1, l1, c1, rfl⟩ := okWide_slice Tryd.underlying22 (hval 1 22 v1 rfl rfl)
  have tk1 := h1
  have lt1 : ∀ x ∈ p1, x.block < W.heap.size := by obtain ⟨m, hm⟩ := tk1; exact DataW.trod_lt m _ _ _ hm
  obtain ⟨z1, w1⟩ : ∃ zs, SlcP W a1 l1 c1 zs := by
    obtain ⟨fuel, hf⟩ := h1
    exact open_props (by simpa [Value.cells] using hf)
  clear hA0 hval0
  rw [MakeChecks.laidMetH_plain _ _ _ (by kernel_rfl)] at hL
  have hT : Tabs W := tabs_of_laid hL
  refine (walk a0 l0 c0 z0 a1 l1 c1 z1  W w0 w1 hT).mono fun e W' ⟨he, bel⟩ => ?_
  subst he
  exact ⟨_, rfl, _, _, _, [], _, [], hW', trodAll_mk1 (shut_bool Tryd.underlying4 _), (trodAll_cons_mk (Below.trod laidOut (by kernel_rfl) (of_decide_eq_true (by kernel_rfl)) tk0 bel lt0) (trodAll_cons_mk (Below.trod laidOut (by kernel_rfl) (of_decide_eq_true (by kernel_rfl)) tk1 bel lt1) trodAll_mk0)), rfl, bel.frame _, fun h => by cases h⟩

theorem over : Rows.propsApartRow.holds Tryd.pinned (OpenSpec.ofChange Rows.propsApartSpec) :=
  OpenClaim.holds_of_wide 7 Tryd.f7 rfl rfl rfl rfl rfl rfl rfl ⟨rfl, rfl, rfl, rfl, rfl⟩ rfl rfl rfl rfl rfl (by kernel_rfl) Tryd.func7 (by kernel_rfl)
    (of_decide_eq_true (by kernel_rfl)) (by unfold Func.isWrapper; first | (rw [if_pos (by decide +kernel)]; kernel_rfl) | (rw [if_neg (by decide +kernel)]; exact ⟨rfl, rfl⟩))
    (fun os started H enc _ => lifted os started H enc)
theorem proved : Rows.PropsApartCardSaid :=
  Claim7.holds_tied_plain_at .later [] [.data, .pinned] true _ true
    over (fun _ h => by cases h) (by kernel_rfl) (fun _ h => by cases h) propsApart_row_tie rfl ⟨rfl, rfl⟩ (by kernel_rfl) rfl
    (fun f fn hf hfn => by
      obtain rfl : f = 7 := Option.some.inj ((show Tryd.prog.funcNamed "cobweb/cobweblaw03.PropsApart" = some 7 by kernel_rfl).symm.trans hf) |>.symm
      obtain rfl : fn = Tryd.f7 := (Option.some.inj (Tryd.func7.symm.trans hfn)).symm
      exact ⟨by kernel_rfl, fun j t ht => by
        rw [Tryd.params7] at ht
        have hm : t ∈ [22, 22] := by simpa using Array.mem_of_getElem? ht
        have hall : ([22, 22].all fun u => !Tryd.prog.wantsStandIn u) = true := by kernel_rfl
        exact (show Tryd.prog.wantsStandIn t = false by simpa using List.all_eq_true.1 hall t hm)⟩)
    (by kernel_rfl)
end Go.Proofs.YtgacphpkgaobkaaDoor.propsApart
