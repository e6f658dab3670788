/- The check sums of the program are those that the document tells, of any slices of bytes. -/
import Derived.Test.YtpmmbbkomikceaaDoorBlDoor
import Derived.Test.YtpmmbbkomikceaaDoorBlCode4
import Derived.Test.YtpmmbbkomikceaaDoorBlAwake
import Derived.Test.YtpmmbbkomikceaaDoorPass
namespace Go.Proofs.YtpmmbbkomikceaaDoor.blockSums
open Go.ChangeShapes Go.WideShapes Go.ChangeAt Go.RowKit
open Go.ChangeMaps (open_string shut_string)
set_option linter.unusedVariables false

set_option maxHeartbeats 40000000 in
set_option maxRecDepth 100000 in
theorem walk (a0 : Option Addr) (l0 c0 : Nat) (z0 : List BsZ)  (w : World) (w0 : SlcS w a0 l0 c0 z0) (hT : Tabs w) :
    Calls Tryd.prog 3 #[.slice a0 l0 c0] w fun e w' => e = .returned (.bool true) ∧ Below w.heap.size w w' := by
  obtain ⟨rfl, hlc, hrd⟩ := w0
  have HR := Lib.hid hrd
  have C := blSpec_is
  have HTab := Lib.hid hT
  clear hT
  clear hrd
  go_enter Tryd.func3, Tryd.ntmps3
  go_wp2_with fail
  refine (awake_any C _ HTab.out).mono ?_
  rintro e x1 ⟨rfl, b1⟩
  by_cases hbig : 20 < z0.length
  · have hbig2 : (20 : Int) < (z0.length : Int) := by omega
    go_wp2_with fail
    refine (awake_any C _ (HTab.out.below b1)).mono ?_
    rintro e x2 ⟨rfl, b2⟩
    go_wp2_with fail
    go_ret
    exact ⟨rfl, b1.trans (b2.mono b1.size)⟩
  · have hbig2 : decide ((20 : Int) < (z0.length : Int)) = false := decide_eq_false (by omega)
    have hbig3 : ¬ ((20 : Int) < (z0.length : Int)) := by omega
    have hl20 : z0.length ≤ 20 := by omega
    clear hbig
    go_wp2_with fail
    go_loopw [3, 4] (fun v i wr => ∃ (k : Nat) (al : List UInt8), k ≤ z0.length ∧ i = .int .i64 (k : Nat) ∧ layB.Row 5 wr w.heap.size v al.length al ∧ al = catS (z0.take k) ∧ al.length ≤ k * 1000 ∧ Below w.heap.size w wr) (fun _ i _ => z0.length - (intOf i).toNat)
    case atStart => exact ⟨0, [], Nat.zero_le _, rfl, LayG.Row.nil _ _, rfl, Nat.zero_le _, b1⟩
    case round =>
      clear b1
      obtain ⟨k, al, hk, rfl, hrow, hal, hsm, hbw⟩ := hrel
      obtain ⟨AV, cV, rfl, hcV, hrdV, _, _⟩ := hrow.rd
      have HRow := Lib.hid hrow
      have HBw := Lib.hid hbw
      by_cases hlt : k < z0.length
      · have hrk := HR.out.below (Nat.le_refl _) hbw
        obtain ⟨ad, rfl, hblk, h0⟩ := layS_at hrk.1 hlt
        have hzok := (hrk.2 _ (mem_getDS hlt)).2
        have hsu := catS_succ z0 k hlt
        obtain ⟨z, hz⟩ : ∃ z, z0.getD k default = z := ⟨_, rfl⟩
        rw [hz] at h0 hzok hsu
        obtain ⟨za, zc, zb⟩ := z
        unfold BsZ.val at h0
        dsimp only at h0 hzok hsu
        rw [← hal] at hsu
        have hki : (k : Int) < (z0.length : Int) := by omega
        have HZ := Lib.hid hzok
        have HSu := Lib.hid hsu
        have HSm := Lib.hid hsm
        by_cases hbg : 1000 < zb.length
        · have hbi : (1000 : Int) < (zb.length : Int) := by omega
          clear hrk hzok hsu hz hrow hal hsm hbw hrdV
          go_wp2_with fail
          go_ret
          exact ⟨rfl, HBw.out⟩
        · have hbi : ¬ ((1000 : Int) < (zb.length : Int)) := by omega
          have hal9 : al.length + zb.length ≤ 1000000 := by omega
          clear hrk hzok hsu hz hrow hal hsm hbw hrdV
          go_wp2_with (at_builtin; refine wpList_append_G typB rfl _ _ rfl w.heap.size (.slice AV al.length cV) al.length al rfl HRow.out za zb.length zc zb rfl rfl HZ.out hal9 HBw.out.size wr.heap.size rfl ?_)
          intro v3 w3 r3 g3 l3
          have HB3 := Lib.hid (HBw.out.grown g3 HBw.out.size (fun g hg => (HRow.out.lt g hg).1))
          have HR3 : Hid (layB.Row 5 w3 w.heap.size v3 (al ++ zb).length (al ++ zb)) := Lib.hid (by rw [List.length_append]; exact r3)
          clear r3 g3 l3
          go_wp2_with fail
          go_roundw
          case rel => exact ⟨k + 1, al ++ zb, by omega, by go_num, HR3.out, HSu.out.symm, by rw [List.length_append]; have := HSm.out; omega, HB3.out⟩
          case measure => simp [intOf]; omega
      · obtain rfl : k = z0.length := by omega
        rw [List.take_length] at hal
        have hcl : (catS z0).length ≤ 20000 := by rw [← hal]; omega
        have hS := C.sum_ a0 c0 z0 wr (HR.out.below (Nat.le_refl _) hbw) hlc (by omega) (by omega) (HTab.out.below hbw)
        rw [← hal] at hS
        have HS := Lib.hid hS
        have HRd := Lib.hid hrdV
        have hal6 : al.length ≤ 100000 := by omega
        clear hS hal hcl hrow hsm hbw hrdV
        go_wp2_with fail
        refine HS.out.mono ?_
        rintro e w2 ⟨rfl, b2⟩
        have HB2 := Lib.hid (HBw.out.trans (b2.mono HBw.out.size))
        have HQ := Lib.hid (refSum_any AV cV al w2 (HRd.out.below (Nat.le_refl _) b2) hcV (by omega))
        clear b2 HS
        go_wp2_with fail
        refine HQ.out.mono ?_
        rintro e w3 ⟨rfl, rfl⟩
        go_wp2_with fail
        go_ret
        exact ⟨by simp, HB2.out⟩

set_option maxRecDepth 100000 in
theorem lifted (os : Os) (started : os.Started) (H : Type) (enc : TypeId × Value → H) :
    ReturnsInHanded {} Tryd.checked os 3 .any (fun w args => (Rows.blockSumsSpec.pre enc Tryd.prog Tryd.f3 [] false w args ∧ laidMetH Tryd.prog Rows.blockSumsRow.laid w) ∧ sizedMet enc Tryd.prog Tryd.f3 (OpenSpec.ofChange Rows.blockSumsSpec) false w args) (Rows.blockSumsSpec.post enc Tryd.prog Tryd.f3 false true false false) := by
  refine returnsInHanded_of_change_and (C := Tryd.checked) (X := fun w _ => laidMetH Tryd.prog Rows.blockSumsRow.laid w) (fun _ _ _ hh h => h.of_heap hh) own started (by kernel_rfl) Tryd.func3
    (ChangeSpec.witness_shaped (enc := enc) (C := Tryd.checked) (os := os) (X := fun w _ => laidMetH Tryd.prog Rows.blockSumsRow.laid w) false (World.laidAll Tryd.prog os Rows.blockSumsRow.laid) #[.slice none 0 0] 8 (World.laidAll_os _ _ _)
      (World.shaped_of_ZipB (by kernel_rfl) (by kernel_rfl)) (by kernel_rfl) (by kernel_rfl) (by kernel_rfl)
      (by rw [MakeChecks.laidMetH_plain _ _ _ (by kernel_rfl)]; exact laidMet_laidAll _ (by kernel_rfl) (by kernel_rfl))) ?_
  intro W base args ds gs before hval0 hW _ _ hL _
  have hval : ∀ (j : Nat) t v, Tryd.f3.params[j]? = some t → args[j]? = some v → Value.okWide Tryd.prog W .any base t v := hval0
  have hW' := hW
  obtain ⟨p, q, hA0, hV, rfl, hfz, hnd⟩ := hW
  have hA : DataW.TrodAll enc Tryd.prog W 0 (fun _ => true) true Tryd.f3.params.toList args.toList ds p := hA0
  rw [Tryd.params3] at hA hval
  obtain ⟨v0, vs0, d0, ds0, p0, q0, hargs, rfl, rfl, h0, r0⟩ := trodAll_cons hA
  obtain ⟨rfl, rfl, rfl⟩ := trodAll_nil r0
  obtain rfl : args = #[v0] := by cases args; simp_all
  obtain ⟨rfl, rfl⟩ := trodVars_none hV
  obtain ⟨a0, l0, c0, rfl⟩ := okWide_slice Tryd.underlying22 (hval 0 22 v0 rfl rfl)
  have tk0 := h0
  have lt0 : ∀ x ∈ p0, x.block < W.heap.size := by obtain ⟨m, hm⟩ := tk0; exact DataW.trod_lt m _ _ _ hm
  obtain ⟨z0, w0⟩ : ∃ zs, SlcS W a0 l0 c0 zs := by
    obtain ⟨fuel, hf⟩ := h0
    exact open_bss1 (by simpa [Value.cells] using hf)
  clear hA0 hval0
  rw [MakeChecks.laidMetH_plain _ _ _ (by kernel_rfl)] at hL
  have hT : Tabs W := tabs_of_laid hL
  refine (walk a0 l0 c0 z0  W w0 hT).mono fun e W' ⟨he, bel⟩ => ?_
  subst he
  exact ⟨_, rfl, _, _, _, [], _, [], hW', trodAll_mk1 (shut_bool Tryd.underlying4 _), (trodAll_cons_mk (Below.trod laidOut (by kernel_rfl) (of_decide_eq_true (by kernel_rfl)) tk0 bel lt0) trodAll_mk0), rfl, bel.frame _, fun h => by cases h⟩

theorem over : Rows.blockSumsRow.holds Tryd.pinned (OpenSpec.ofChange Rows.blockSumsSpec) :=
  OpenClaim.holds_of_wide 3 Tryd.f3 rfl rfl rfl rfl rfl rfl rfl ⟨rfl, rfl, rfl, rfl, rfl⟩ rfl rfl rfl rfl rfl (by kernel_rfl) Tryd.func3 (by kernel_rfl)
    (of_decide_eq_true (by kernel_rfl)) (by unfold Func.isWrapper; first | (rw [if_pos (by decide +kernel)]; kernel_rfl) | (rw [if_neg (by decide +kernel)]; exact ⟨rfl, rfl⟩))
    (fun os started H enc _ => lifted os started H enc)
theorem proved : Rows.BlockSumsCardSaid :=
  Claim7.holds_tied_plain_at .later [] [.data] true _ false
    over (fun _ h => by cases h) (by kernel_rfl) (fun _ h => by cases h) blockSums_row_tie rfl ⟨rfl, rfl⟩ (by kernel_rfl) rfl
    (fun f fn hf hfn => by
      obtain rfl : f = 3 := Option.some.inj ((show Tryd.prog.funcNamed "cobweb/cobweblaw08.BlockSums" = some 3 by kernel_rfl).symm.trans hf) |>.symm
      obtain rfl : fn = Tryd.f3 := (Option.some.inj (Tryd.func3.symm.trans hfn)).symm
      exact ⟨by kernel_rfl, fun j t ht => by
        rw [Tryd.params3] at ht
        have hm : t ∈ [22] := by simpa using Array.mem_of_getElem? ht
        have hall : ([22].all fun u => !Tryd.prog.wantsStandIn u) = true := by kernel_rfl
        exact (show Tryd.prog.wantsStandIn t = false by simpa using List.all_eq_true.1 hall t hm)⟩)
    (by kernel_rfl)
end Go.Proofs.YtpmmbbkomikceaaDoor.blockSums
