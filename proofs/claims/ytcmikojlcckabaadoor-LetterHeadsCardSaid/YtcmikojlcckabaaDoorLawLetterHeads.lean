/- Whatever the three lists of runes, LetterHeads answers true and they read behind the call as before: where utf8's two tables hold what the library's text lays (the card ties that). -/
import Derived.Test.YtcmikojlcckabaaDoorDoor
import Derived.Test.YtcmikojlcckabaaDoorRefCompare
namespace Go.Proofs.YtcmikojlcckabaaDoor.letterHeads
open Go.ChangeShapes Go.WideShapes Go.ChangeAt Go.RowKit
open Go.ChangeMaps (open_string shut_string)
set_option linter.unusedVariables false

set_option maxHeartbeats 4000000 in
set_option maxRecDepth 100000 in
theorem walk (a0 : Option Addr) (l0 c0 : Nat) (z0 : List Int) (a1 : Option Addr) (l1 c1 : Nat) (z1 : List Int) (a2 : Option Addr) (l2 c2 : Nat) (z2 : List Int)  (w : World) (w0 : Slc w a0 l0 c0 z0) (w1 : Slc w a1 l1 c1 z1) (w2 : Slc w a2 l2 c2 z2) (hT : Lib.Utf8Tabs 0 1 w) :
    Calls Tryd.prog 7 #[.slice a0 l0 c0, .slice a1 l1 c1, .slice a2 l2 c2] w fun e w' => e = .returned (.bool true) ∧ Below w.heap.size w w' := by
  obtain ⟨rfl, hc0, hr0, hz0⟩ := w0
  obtain ⟨rfl, hc1, hr1, hz1⟩ := w1
  obtain ⟨rfl, hc2, hr2, hz2⟩ := w2
  clear hz0 hz1 hz2
  have HT := Lib.hid hT
  have HR0 := Lib.hid hr0
  have HR1 := Lib.hid hr1
  have HR2 := Lib.hid hr2
  clear hT hr0 hr1 hr2
  by_cases hbig : 100 < z0.length ∨ 100 < z1.length ∨ 100 < z2.length
  · have hsp : 100 < z0.length ∨ (z0.length ≤ 100 ∧ 100 < z1.length) ∨ (z0.length ≤ 100 ∧ z1.length ≤ 100 ∧ 100 < z2.length) := by omega
    clear hbig
    rcases hsp with h | ⟨h, h'⟩ | ⟨h, h', h''⟩
    all_goals
      go_enter Tryd.func7, Tryd.ntmps7
      go_wp2_with fail
      refine (awake_any _).mono ?_
      rintro e w1 ⟨rfl, b1⟩
      go_wp2_with fail
      refine (awake_any _).mono ?_
      rintro e w2 ⟨rfl, b2⟩
      go_wp2_with fail
      go_ret
      exact ⟨rfl, bt b1 b2⟩
  · have s0 : z0.length ≤ 100 := by omega
    have s1 : z1.length ≤ 100 := by omega
    have s2 : z2.length ≤ 100 := by omega
    have e0 := fun W (hW : Rd W a0 z0) => refText_any a0 c0 z0 W hW hc0 (by omega)
    have e1 := fun W (hW : Rd W a1 z1) => refText_any a1 c1 z1 W hW hc1 (by omega)
    have e2 := fun W (hW : Rd W a2 z2) => refText_any a2 c2 z2 W hW hc2 (by omega)
    have t0 := text_length_le z0
    have t1 := text_length_le z1
    have t2 := text_length_le z2
    have x0 : (⟨(text z0).toArray⟩ : ByteArray).size ≤ 400 := by rw [← size_list]; simp; omega
    have x1 : (⟨(text z1).toArray⟩ : ByteArray).size ≤ 400 := by rw [← size_list]; simp; omega
    have x2 : (⟨(text z2).toArray⟩ : ByteArray).size ≤ 400 := by rw [← size_list]; simp; omega
    have f0 : (⟨(text z0).toArray⟩ : ByteArray).data.toList = text z0 := by simp
    have f1 : (⟨(text z1).toArray⟩ : ByteArray).data.toList = text z1 := by simp
    have f2 : (⟨(text z2).toArray⟩ : ByteArray).data.toList = text z2 := by simp
    generalize (⟨(text z0).toArray⟩ : ByteArray) = X at *
    generalize (⟨(text z1).toArray⟩ : ByteArray) = Y at *
    generalize (⟨(text z2).toArray⟩ : ByteArray) = Z at *
    have app : ∀ u v : ByteArray, (u ++ v).data.toList = u.data.toList ++ v.data.toList := fun u v => by rw [ByteArray.data_append]; simp
    have siz : ∀ u v : ByteArray, (u ++ v).size = u.size + v.size := fun u v => by rw [← size_list, app, List.length_append, size_list, size_list]
    have k1 := fun W hW => compare_any X (X ++ Y) W (by omega) (by rw [siz]; omega) hW
    have k2 := fun W hW => compare_any (Z ++ X) (Z ++ Y) W (by rw [siz]; omega) (by rw [siz]; omega) hW
    have k3 := fun W hW => compare_any X Y W (by omega) (by omega) hW
    have v1 : cmpL (runes X.data.toList) (runes (X ++ Y).data.toList) = if z1 = [] then 0 else -1 := by
      rw [app, f0, f1, ← text_append, runes_text', runes_text', List.map_append, cmpL_more]
      simp
    have v2 : cmpL (runes (Z ++ X).data.toList) (runes (Z ++ Y).data.toList) = cmpL (runes X.data.toList) (runes Y.data.toList) := by
      rw [app, app, f0, f1, f2, ← text_append, ← text_append, runes_text', runes_text', runes_text', runes_text', List.map_append, List.map_append, cmpL_head]
    rw [v1] at k1
    rw [v2] at k2
    generalize cmpL (runes X.data.toList) (runes Y.data.toList) = V at *
    have E0 := Lib.hid e0; have E1 := Lib.hid e1; have E2 := Lib.hid e2
    have K2 := Lib.hid k2; have K3 := Lib.hid k3
    clear e0 e1 e2 k2 k3 app siz v1 v2 f0 f1 f2 t0 t1 t2 hbig
    by_cases hz : z1 = []
    · rw [if_pos hz] at k1
      have K1 := Lib.hid k1
      clear k1
      have hl : ((z1.length : Int) == 0) = true := by rw [hz]; rfl
      have hl2 : (z1.length == 0) = true := by rw [hz]; rfl
      have HZ := Lib.hid hz
      clear hz
      go_enter Tryd.func7, Tryd.ntmps7
      go_wp2_with fail
      refine (awake_any _).mono ?_
      rintro e w1 ⟨rfl, b1⟩
      have t1 := Lib.hid (Utf8Tabs_below HT.out b1)
      go_wp2_with fail
      refine (E0.out _ (HR0.out.below (Nat.le_refl _) b1)).mono ?_
      rintro e w2 ⟨rfl, rfl⟩
      go_wp2_with fail
      refine (E1.out _ (HR1.out.below (Nat.le_refl _) b1)).mono ?_
      rintro e w2 ⟨rfl, rfl⟩
      go_wp2_with fail
      refine (E2.out _ (HR2.out.below (Nat.le_refl _) b1)).mono ?_
      rintro e w2 ⟨rfl, rfl⟩
      go_wp2_with fail
      refine (K1.out _ t1.out).mono ?_
      rintro e w2 ⟨rfl, b2⟩
      have t2 := Lib.hid (Utf8Tabs_below t1.out b2)
      go_wp2_with fail
      refine (K2.out _ t2.out).mono ?_
      rintro e w3 ⟨rfl, b3⟩
      have t3 := Lib.hid (Utf8Tabs_below t2.out b3)
      go_wp2_with fail
      refine (K3.out _ t3.out).mono ?_
      rintro e w4 ⟨rfl, b4⟩
      go_wp2_with fail
      go_ret
      exact ⟨rfl, bt (bt (bt b1 b2) b3) b4⟩
    · rw [if_neg hz] at k1
      have K1 := Lib.hid k1
      clear k1
      have hl : ((z1.length : Int) == 0) = false := by
        rw [beq_eq_false_iff_ne]
        have : z1.length ≠ 0 := fun h => hz (List.eq_nil_of_length_eq_zero h)
        omega
      have hl2 : (z1.length == 0) = false := by
        rw [beq_eq_false_iff_ne]
        exact fun h => hz (List.eq_nil_of_length_eq_zero h)
      have HZ := Lib.hid hz
      clear hz
      go_enter Tryd.func7, Tryd.ntmps7
      go_wp2_with fail
      refine (awake_any _).mono ?_
      rintro e w1 ⟨rfl, b1⟩
      have t1 := Lib.hid (Utf8Tabs_below HT.out b1)
      go_wp2_with fail
      refine (E0.out _ (HR0.out.below (Nat.le_refl _) b1)).mono ?_
      rintro e w2 ⟨rfl, rfl⟩
      go_wp2_with fail
      refine (E1.out _ (HR1.out.below (Nat.le_refl _) b1)).mono ?_
      rintro e w2 ⟨rfl, rfl⟩
      go_wp2_with fail
      refine (E2.out _ (HR2.out.below (Nat.le_refl _) b1)).mono ?_
      rintro e w2 ⟨rfl, rfl⟩
      go_wp2_with fail
      refine (K1.out _ t1.out).mono ?_
      rintro e w2 ⟨rfl, b2⟩
      have t2 := Lib.hid (Utf8Tabs_below t1.out b2)
      go_wp2_with fail
      refine (K2.out _ t2.out).mono ?_
      rintro e w3 ⟨rfl, b3⟩
      have t3 := Lib.hid (Utf8Tabs_below t2.out b3)
      go_wp2_with fail
      refine (K3.out _ t3.out).mono ?_
      rintro e w4 ⟨rfl, b4⟩
      go_wp2_with fail
      go_ret
      exact ⟨rfl, bt (bt (bt b1 b2) b3) b4⟩

set_option maxRecDepth 100000 in
theorem lifted (os : Os) (started : os.Started) (H : Type) (enc : TypeId × Value → H) :
    ReturnsInHanded {} Tryd.checked os 7 .any (fun w args => (Rows.letterHeadsSpec.pre enc Tryd.prog Tryd.f7 [] false w args ∧ laidMetH Tryd.prog Rows.letterHeadsRow.laid w) ∧ sizedMet enc Tryd.prog Tryd.f7 (OpenSpec.ofChange Rows.letterHeadsSpec) false w args) (Rows.letterHeadsSpec.post enc Tryd.prog Tryd.f7 false true false false) := by
  refine returnsInHanded_of_change_and (C := Tryd.checked) (X := fun w _ => laidMetH Tryd.prog Rows.letterHeadsRow.laid w) (fun _ _ _ hh h => h.of_heap hh) own started (by kernel_rfl) Tryd.func7
    (ChangeSpec.witness_shaped (enc := enc) (C := Tryd.checked) (os := os) (X := fun w _ => laidMetH Tryd.prog Rows.letterHeadsRow.laid w) false (World.laidAll Tryd.prog os Rows.letterHeadsRow.laid) #[.slice none 0 0, .slice none 0 0, .slice none 0 0] 8 (World.laidAll_os _ _ _)
      (World.shaped_of_ZipB (by kernel_rfl) (by kernel_rfl)) (by kernel_rfl) (by kernel_rfl) (by kernel_rfl)
      (by rw [MakeChecks.laidMetH_plain _ _ _ (by kernel_rfl)]; exact laidMet_laidAll _ (by kernel_rfl) (by kernel_rfl))) ?_
  intro W base args ds gs before hval0 hW _ _ hL _
  have hval : ∀ (j : Nat) t v, Tryd.f7.params[j]? = some t → args[j]? = some v → Value.okWide Tryd.prog W .any base t v := hval0
  have hW' := hW
  obtain ⟨p, q, hA0, hV, rfl, hfz, hnd⟩ := hW
  have hA : DataW.TrodAll enc Tryd.prog W 0 (fun _ => true) true Tryd.f7.params.toList args.toList ds p := hA0
  rw [Tryd.params7] at hA hval
  obtain ⟨v0, vs0, d0, ds0, p0, q0, hargs, rfl, rfl, h0, r0⟩ := trodAll_cons hA
  obtain ⟨v1, vs1, d1, ds1, p1, q1, rfl, rfl, rfl, h1, r1⟩ := trodAll_cons r0
  obtain ⟨v2, vs2, d2, ds2, p2, q2, rfl, rfl, rfl, h2, r2⟩ := trodAll_cons r1
  obtain ⟨rfl, rfl, rfl⟩ := trodAll_nil r2
  obtain rfl : args = #[v0, v1, v2] := by cases args; simp_all
  obtain ⟨rfl, rfl⟩ := trodVars_none hV
  obtain ⟨a0, l0, c0, rfl⟩ := okWide_slice Tryd.underlying32 (hval 0 32 v0 rfl rfl)
  have k0 := h0
  have lt0 : ∀ x ∈ p0, x.block < W.heap.size := by obtain ⟨m, hm⟩ := k0; exact DataW.trod_lt m _ _ _ hm
  obtain ⟨z0, w0⟩ : ∃ zs, Slc W a0 l0 c0 zs := by
    obtain ⟨fuel, hf⟩ := h0
    rcases open_ints Tryd.underlying32 Tryd.underlying21 (by kernel_rfl) hf with ⟨hcs, _⟩ | ⟨x, l, c, zs, hcs, _, hl, hm, hz, _, hcell, hwz⟩
    · simp [Value.cells] at hcs
      obtain ⟨rfl, rfl, rfl⟩ := hcs
      exact ⟨[], Slc.none_ W⟩
    · simp [Value.cells] at hcs
      obtain ⟨rfl, rfl, rfl⟩ := hcs
      exact ⟨_, Slc.some_ hl hm (by simpa using hz) hcell hwz⟩
  obtain ⟨a1, l1, c1, rfl⟩ := okWide_slice Tryd.underlying32 (hval 1 32 v1 rfl rfl)
  have k1 := h1
  have lt1 : ∀ x ∈ p1, x.block < W.heap.size := by obtain ⟨m, hm⟩ := k1; exact DataW.trod_lt m _ _ _ hm
  obtain ⟨z1, w1⟩ : ∃ zs, Slc W a1 l1 c1 zs := by
    obtain ⟨fuel, hf⟩ := h1
    rcases open_ints Tryd.underlying32 Tryd.underlying21 (by kernel_rfl) hf with ⟨hcs, _⟩ | ⟨x, l, c, zs, hcs, _, hl, hm, hz, _, hcell, hwz⟩
    · simp [Value.cells] at hcs
      obtain ⟨rfl, rfl, rfl⟩ := hcs
      exact ⟨[], Slc.none_ W⟩
    · simp [Value.cells] at hcs
      obtain ⟨rfl, rfl, rfl⟩ := hcs
      exact ⟨_, Slc.some_ hl hm (by simpa using hz) hcell hwz⟩
  obtain ⟨a2, l2, c2, rfl⟩ := okWide_slice Tryd.underlying32 (hval 2 32 v2 rfl rfl)
  have k2 := h2
  have lt2 : ∀ x ∈ p2, x.block < W.heap.size := by obtain ⟨m, hm⟩ := k2; exact DataW.trod_lt m _ _ _ hm
  obtain ⟨z2, w2⟩ : ∃ zs, Slc W a2 l2 c2 zs := by
    obtain ⟨fuel, hf⟩ := h2
    rcases open_ints Tryd.underlying32 Tryd.underlying21 (by kernel_rfl) hf with ⟨hcs, _⟩ | ⟨x, l, c, zs, hcs, _, hl, hm, hz, _, hcell, hwz⟩
    · simp [Value.cells] at hcs
      obtain ⟨rfl, rfl, rfl⟩ := hcs
      exact ⟨[], Slc.none_ W⟩
    · simp [Value.cells] at hcs
      obtain ⟨rfl, rfl, rfl⟩ := hcs
      exact ⟨_, Slc.some_ hl hm (by simpa using hz) hcell hwz⟩
  clear hA0 hval0
  rw [MakeChecks.laidMetH_plain _ _ _ (by kernel_rfl)] at hL
  have hT : Lib.Utf8Tabs 0 1 W := tabs_of_laid hL
  refine (walk a0 l0 c0 z0 a1 l1 c1 z1 a2 l2 c2 z2  W w0 w1 w2 hT).mono fun e W' ⟨he, bel⟩ => ?_
  subst he
  exact ⟨_, rfl, _, _, _, [], _, [], hW', trodAll_mk1 (shut_bool Tryd.underlying4 _), (trodAll_cons_mk (Below.trod laidOut (by kernel_rfl) (of_decide_eq_true (by kernel_rfl)) k0 bel lt0) (trodAll_cons_mk (Below.trod laidOut (by kernel_rfl) (of_decide_eq_true (by kernel_rfl)) k1 bel lt1) (trodAll_cons_mk (Below.trod laidOut (by kernel_rfl) (of_decide_eq_true (by kernel_rfl)) k2 bel lt2) trodAll_mk0))), rfl, bel.frame _, fun h => by cases h⟩

theorem over : Rows.letterHeadsRow.holds Tryd.pinned (OpenSpec.ofChange Rows.letterHeadsSpec) :=
  OpenClaim.holds_of_wide 7 Tryd.f7 rfl rfl rfl rfl rfl rfl rfl ⟨rfl, rfl, rfl, rfl, rfl⟩ rfl rfl rfl rfl rfl (by kernel_rfl) Tryd.func7 (by kernel_rfl)
    (of_decide_eq_true (by kernel_rfl)) (by unfold Func.isWrapper; first | (rw [if_pos (by decide +kernel)]; kernel_rfl) | (rw [if_neg (by decide +kernel)]; exact ⟨rfl, rfl⟩))
    (fun os started H enc _ => lifted os started H enc)
theorem proved : Rows.LetterHeadsCardSaid :=
  Claim7.holds_tied_plain_at .later [] [.data, .pinned] true _ false
    over (fun _ h => by cases h) (by kernel_rfl) (fun _ h => by cases h) letterHeads_row_tie rfl ⟨rfl, rfl⟩ (by kernel_rfl) rfl
    (fun f fn hf hfn => by
      obtain rfl : f = 7 := Option.some.inj ((show Tryd.prog.funcNamed "cobweb/cobweblaw01.LetterHeads" = some 7 by kernel_rfl).symm.trans hf) |>.symm
      obtain rfl : fn = Tryd.f7 := (Option.some.inj (Tryd.func7.symm.trans hfn)).symm
      exact ⟨by kernel_rfl, fun j t ht => by
        rw [Tryd.params7] at ht
        have hm : t ∈ [32, 32, 32] := by simpa using Array.mem_of_getElem? ht
        have hall : ([32, 32, 32].all fun u => !Tryd.prog.wantsStandIn u) = true := by kernel_rfl
        exact (show Tryd.prog.wantsStandIn t = false by simpa using List.all_eq_true.1 hall t hm)⟩)
    (by kernel_rfl)
end Go.Proofs.YtcmikojlcckabaaDoor.letterHeads
