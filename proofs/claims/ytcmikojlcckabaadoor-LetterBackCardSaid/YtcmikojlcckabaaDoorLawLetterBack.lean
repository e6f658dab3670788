/- Whatever the list of runes and the number, LetterBack answers true and they read behind the call as before: where utf8's two tables hold what the library's text lays (the card ties that). -/
import Derived.Test.YtcmikojlcckabaaDoorDoor
import Derived.Test.YtcmikojlcckabaaDoorBack
namespace Go.Proofs.YtcmikojlcckabaaDoor.letterBack
open Go.ChangeShapes Go.WideShapes Go.ChangeAt Go.RowKit
open Go.ChangeMaps (open_string shut_string)
set_option linter.unusedVariables false

set_option maxHeartbeats 4000000 in
set_option maxRecDepth 100000 in
theorem walk (a0 : Option Addr) (l0 c0 : Nat) (z0 : List Int) (a1 : Int) (w1 : (Lit.int .i64 a1).wf = true) (w : World) (w0 : Slc w a0 l0 c0 z0) (hT : Lib.Utf8Tabs 0 1 w) :
    Calls Tryd.prog 5 #[.slice a0 l0 c0, .int .i64 a1] w fun e w' => e = .returned (.bool true) ∧ Below w.heap.size w w' := by
  have hb2 := bounds_i64 w1
  obtain ⟨hn0, hn1⟩ := hb2
  clear w1
  obtain ⟨rfl, hlc, hr0, hz0⟩ := w0
  clear hz0
  have HT := Lib.hid hT
  have HR0 := Lib.hid hr0
  clear hT hr0
  by_cases hbig : 100 < z0.length
  · go_enter Tryd.func5, Tryd.ntmps5
    go_wp2_with fail
    refine (awake_any _).mono ?_
    rintro e w1 ⟨rfl, b1⟩
    go_wp2_with fail
    refine (awake_any _).mono ?_
    rintro e w2 ⟨rfl, b2⟩
    go_wp2_with fail
    go_ret
    exact ⟨rfl, bt b1 b2⟩
  · have s0 : z0.length ≤ 100 := by omega
    obtain ⟨m, hm⟩ : ∃ m, a1.tmod ((z0.length : Int) + 1) = m := ⟨_, rfl⟩
    have hmb := tmod_bounds a1 z0.length
    rw [hm] at hmb
    obtain ⟨hm0, hm1⟩ := hmb
    obtain ⟨K, hKn, hKe⟩ := mod_nat (m + (z0.length : Int) + 1) z0.length
    have HKe := Lib.hid hKe
    clear hKe
    have hKc : K ≤ c0 := by omega
    have tl := text_length_le z0
    have tl1 := text_length_le (z0.take K)
    have tl2 := text_length_le (z0.drop K)
    rw [List.length_take] at tl1
    rw [List.length_drop] at tl2
    have f0 : (⟨(text z0).toArray⟩ : ByteArray).data.toList = text z0 := by simp
    have f1 : (⟨(text (z0.take K)).toArray⟩ : ByteArray).data.toList = text (z0.take K) := by simp
    have f2 : (⟨(text (z0.drop K)).toArray⟩ : ByteArray).data.toList = text (z0.drop K) := by simp
    have x0 : (⟨(text z0).toArray⟩ : ByteArray).size ≤ 400 := by rw [← size_list, f0]; omega
    have x1 : (⟨(text (z0.take K)).toArray⟩ : ByteArray).size ≤ 400 := by rw [← size_list, f1]; omega
    have x2 : (⟨(text (z0.drop K)).toArray⟩ : ByteArray).size ≤ 400 := by rw [← size_list, f2]; omega
    have hT0 := fun W (hW : Rd W a0 z0) => refText_any a0 c0 z0 W hW hlc (by omega)
    have hT1 : ∀ W, Rd W a0 z0 → Calls Tryd.prog 15 #[.slice a0 K c0] W fun e w'' => e = .returned (.string ⟨(text (z0.take K)).toArray⟩) ∧ w'' = W := fun W h1 => by
      have h4 := refText_any a0 c0 (z0.take K) W (h1.take K) (by rw [List.length_take]; omega) (by rw [List.length_take]; omega)
      rw [List.length_take, Nat.min_eq_left hKn] at h4
      exact h4.mono fun _ _ ⟨x, y⟩ => ⟨x, y.symm⟩
    have hT2 : ∀ W, Rd W a0 z0 → Calls Tryd.prog 15 #[.slice (if c0 = K then a0 else Option.map (fun x => x.add K) a0) (z0.length - K) (c0 - K)] W fun e w'' => e = .returned (.string ⟨(text (z0.drop K)).toArray⟩) ∧ w'' = W := fun W h1 => by
      have h4 := refText_any _ (c0 - K) (z0.drop K) W (h1.drop hlc) (by rw [List.length_drop]; omega) (by rw [List.length_drop]; omega)
      rw [List.length_drop] at h4
      exact h4.mono fun _ _ ⟨x, y⟩ => ⟨x, y.symm⟩
    have hsl : ∀ W : World, (Instr.slice 32 (.slice a0 z0.length c0) (some (.int .i64 (K : Int))) none none).run Tryd.prog W = .ok (.slice (if c0 = K then a0 else Option.map (fun x => x.add K) a0) (z0.length - K) (c0 - K)) W := fun W => slice_from W a0 z0.length c0 K hKn
    have hrl : (runes (⟨(text z0).toArray⟩ : ByteArray).data.toList) = z0.map norm := by rw [f0, runes_text']
    have hcnt : (runes (⟨(text z0).toArray⟩ : ByteArray).data.toList).length = z0.length := by rw [hrl, List.length_map]
    have hQ := fun W => quote_any (⟨(text z0).toArray⟩ : ByteArray) W (by omega)
    rw [f0] at hQ
    have hqz : (⟨(quoteL (text z0)).toArray⟩ : ByteArray).size ≤ 1000000 := by
      have h1 := text_length_le (escs (runes (text z0)))
      have h2 : (escs (runes (text z0))).length ≤ 2 * (runes (text z0)).length := escs_length _
      rw [runes_text', List.length_map] at h2
      rw [← size_list]
      have h3 : (quoteL (text z0)).length = (text (escs (runes (text z0)))).length + 2 := by unfold quoteL; simp
      have h4 : (⟨(quoteL (text z0)).toArray⟩ : ByteArray).data.toList = quoteL (text z0) := by simp
      rw [h4, h3]
      rw [runes_text'] at h1 ⊢
      omega
    have hU := fun W hW => unquote_any (⟨(quoteL (text z0)).toArray⟩ : ByteArray) W hqz hW
    have fq : (⟨(quoteL (text z0)).toArray⟩ : ByteArray).data.toList = quoteL (text z0) := by simp
    rw [fq, back_unquote] at hU
    unfold unescV at hU
    dsimp only at hU
    have app : ∀ u v : ByteArray, (u ++ v).data.toList = u.data.toList ++ v.data.toList := fun u v => by rw [ByteArray.data_append]; simp
    have siz : ∀ u v : ByteArray, (u ++ v).size = u.size + v.size := fun u v => by rw [← size_list, app, List.length_append, size_list, size_list]
    have hL1 := fun W => like_true (⟨(text z0).toArray⟩ : ByteArray) (⟨(text z0).toArray⟩ : ByteArray) W (by omega) (by omega) (by omega) (by omega) (fitsL_self _)
    have hrs : runes ((⟨(text (z0.take K)).toArray⟩ : ByteArray) ++ ⟨#[42]⟩ ++ ⟨(text (z0.drop K)).toArray⟩).data.toList = (z0.map norm).take K ++ 42 :: (z0.map norm).drop K := by
      rw [app, app, f1, f2]; exact back_star z0 K
    have hL2 := fun W => like_true (⟨(text z0).toArray⟩ : ByteArray) ((⟨(text (z0.take K)).toArray⟩ : ByteArray) ++ ⟨#[42]⟩ ++ ⟨(text (z0.drop K)).toArray⟩) W (by omega) (by rw [siz, siz]; have : (⟨#[42]⟩ : ByteArray).size = 1 := rfl; omega) (by omega)
      (by rw [hrs, List.length_append, List.length_cons, List.length_take, List.length_drop, List.length_map]; omega) (by rw [hrl, hrs]; exact fits_star _ K)
    have hrx : runes ((⟨(text z0).toArray⟩ : ByteArray) ++ ⟨#[120]⟩).data.toList = z0.map norm ++ [120] := by rw [app, f0]; exact back_x z0
    have hrq : runes ((⟨(text z0).toArray⟩ : ByteArray) ++ ⟨#[63]⟩).data.toList = z0.map norm ++ [63] := by rw [app, f0]; exact back_q z0
    have hL3 := fun W => like_true ((⟨(text z0).toArray⟩ : ByteArray) ++ ⟨#[120]⟩) ((⟨(text z0).toArray⟩ : ByteArray) ++ ⟨#[63]⟩) W (by rw [siz]; have : (⟨#[120]⟩ : ByteArray).size = 1 := rfl; omega) (by rw [siz]; have : (⟨#[63]⟩ : ByteArray).size = 1 := rfl; omega)
      (by rw [hrx, List.length_append, List.length_map, List.length_cons, List.length_nil]; omega) (by rw [hrq, List.length_append, List.length_map, List.length_cons, List.length_nil]; omega) (by rw [hrx, hrq]; exact fits_q _)
    have hF := fun W => fold_any (⟨(text z0).toArray⟩ : ByteArray) W (by omega)
    rw [f0] at hF
    have hfl : (⟨(foldL (text z0)).toArray⟩ : ByteArray).data.toList = foldL (text z0) := by simp
    have hfz : (⟨(foldL (text z0)).toArray⟩ : ByteArray).size ≤ 1000000 := by
      rw [← size_list, hfl]
      unfold foldL
      have h1 := text_length_le ((runes (text z0)).map foldR)
      rw [List.length_map, runes_text', List.length_map] at h1
      rw [runes_text']
      omega
    have hF2 := fun W => fold_any (⟨(foldL (text z0)).toArray⟩ : ByteArray) W hfz
    rw [hfl, fold_fold] at hF2
    have hC := fun W => count_any (⟨(text z0).toArray⟩ : ByteArray) W (by omega)
    rw [hcnt] at hC
    have hCu := fun W => cut_any (⟨(text z0).toArray⟩ : ByteArray) (K : Int) W (by omega) (by omega) (by omega)
    have hPV : (⟨(text z0).toArray⟩ : ByteArray).extract 0 (cutLen (K : Int).toNat (⟨(text z0).toArray⟩ : ByteArray).data.toList) ++ ⟨(text (z0.drop K)).toArray⟩ = ⟨(text z0).toArray⟩ := by
      apply ba_ext
      rw [app, extract_zero, f0, f2, Int.toNat_natCast, text_take, cut_text]
    have hPs : ((⟨(text z0).toArray⟩ : ByteArray).extract 0 (cutLen (K : Int).toNat (⟨(text z0).toArray⟩ : ByteArray).data.toList)).size ≤ 400 := by
      have := congrArg ByteArray.size hPV
      rw [siz] at this
      omega
    clear f0 f1 f2 fq hfl hcnt hqz hfz hrs hrx hrq hrl app siz tl tl1 tl2
    generalize (⟨(text z0).toArray⟩ : ByteArray).extract 0 (cutLen (K : Int).toNat (⟨(text z0).toArray⟩ : ByteArray).data.toList) = P at *
    generalize (⟨(text z0).toArray⟩ : ByteArray) = S at *
    generalize (⟨(text (z0.take K)).toArray⟩ : ByteArray) = U at *
    generalize (⟨(text (z0.drop K)).toArray⟩ : ByteArray) = V at *
    generalize (⟨(quoteL (text z0)).toArray⟩ : ByteArray) = Q at *
    generalize (⟨(foldL (text z0)).toArray⟩ : ByteArray) = F at *
    obtain ⟨A2, hA2⟩ : ∃ A2, (if c0 = K then a0 else Option.map (fun x => x.add K) a0) = A2 := ⟨_, rfl⟩
    rw [hA2] at hT2
    rw [hA2] at hsl
    clear hA2
    have HT0 := Lib.hid hT0; have HT1 := Lib.hid hT1; have HT2 := Lib.hid hT2; have HQ := Lib.hid hQ; have HU := Lib.hid hU
    have HL1 := Lib.hid hL1; have HL2 := Lib.hid hL2; have HL3 := Lib.hid hL3; have HF := Lib.hid hF; have HF2 := Lib.hid hF2; have HC := Lib.hid hC; have HCu := Lib.hid hCu
    have HPV := Lib.hid hPV; have HSl := Lib.hid hsl
    clear hT0 hT1 hT2 hQ hU hL1 hL2 hL3 hF hF2 hC hCu hPV hsl hbig
    go_enter Tryd.func5, Tryd.ntmps5
    go_wp2_with fail
    refine (awake_any _).mono ?_
    rintro e w1 ⟨rfl, b1⟩
    have r1 := Lib.hid (HR0.out.below (Nat.le_refl _) b1)
    go_wp2_with fail
    refine (HT0.out _ r1.out).mono ?_
    rintro e w2 ⟨rfl, rfl⟩
    go_wp2_with fail
    rw [HKe.out]
    clear hm
    refine (HQ.out _).mono ?_
    rintro e w2 ⟨rfl, b2⟩
    have b12 := Lib.hid (bt b1 b2)
    have t2 := Lib.hid (Utf8Tabs_below HT.out b12.out)
    go_wp2_with fail
    refine (HU.out _ t2.out).mono ?_
    rintro e w3 ⟨rfl, b3⟩
    go_wp2_with fail
    refine (HL1.out _).mono ?_
    rintro e w4 ⟨rfl, b4⟩
    have hb4 : Below w.heap.size w w4 := bt (bt b12.out b3) b4
    have hr4 : Rd w4 a0 z0 := HR0.out.below (Nat.le_refl _) hb4
    clear b1 b2 b3 b4
    have hsl := HSl.out
    have hq1 : ¬ 9223372036854775807 < U.size + 1 := by omega
    have hq2 : ¬ 9223372036854775807 < U.size + 1 + V.size := by omega
    go_wp2_with fail
    go_region_held3 (fun w' => Rd w' a0 z0 ∧ Below w.heap.size w w') (first | exact ⟨r6, b6⟩ | exact ⟨hr4, Below.drew hb4⟩ | exact ⟨hr4, hb4⟩ | exact ⟨by assumption, by assumption⟩) ((first
      | (go_at_call_of 15 (Value.slice a0 K c0); refine (HT1.out _ (by assumption)).mono ?_; rintro e w5 ⟨rfl, rfl⟩)
      | (go_at_call_of 15 (Value.slice A2 (z0.length - K) (c0 - K)); refine (HT2.out _ (by assumption)).mono ?_; rintro e w5 ⟨rfl, rfl⟩)
      | (go_at_call 16; refine (HL2.out _).mono ?_; rintro e w5 ⟨rfl, b5⟩; have b6 : Below w.heap.size w w5 := (Below.drew hb4).trans (b5.mono hb4.size); have r6 : Rd w5 a0 z0 := Rd.below (w := w4) hr4 (Nat.le_refl _) (((Below.refl w4.heap.size w4).drew).trans b5))))
    clear hq1 hq2 hsl
    clear hr4 hb4
    have r8 := r6
    have b8 := b6
    clear r6 b6
    go_wp2_with fail
    refine (HL3.out _).mono ?_
    rintro e w6 ⟨rfl, b9⟩
    go_wp2_with fail
    refine (HF.out _).mono ?_
    rintro e w7 ⟨rfl, b10⟩
    have hb7 : Below w.heap.size w w7 := bt (bt b8 b9) b10
    have hr7 : Rd w7 a0 z0 := Rd.below (w := w5) r8 (Nat.le_refl _) (bt b9 b10)
    clear b8 b9 b10 r8
    have hsl := HSl.out
    have hpv := HPV.out
    have hq1 : ¬ 9223372036854775807 < P.size + V.size := by omega
    go_wp2_with fail
    go_region_held3 (fun w' => Rd w' a0 z0 ∧ Below w.heap.size w w') (first | exact ⟨r10, c10⟩ | exact ⟨r9, c9⟩ | exact ⟨r8, c8⟩ | exact ⟨hr7, Below.drew hb7⟩ | exact ⟨hr7, hb7⟩ | exact ⟨by assumption, by assumption⟩) ((first
      | (go_at_call 17; refine (HF2.out _).mono ?_; rintro e w8 ⟨rfl, b8⟩; have c8 : Below w.heap.size w w8 := (Below.drew hb7).trans (b8.mono hb7.size); have r8 : Rd w8 a0 z0 := Rd.below (w := w7) hr7 (Nat.le_refl _) (((Below.refl w7.heap.size w7).drew).trans b8))
      | (go_at_call 18; refine (HC.out _).mono ?_; rintro e w9 ⟨rfl, b9⟩; have c9 : Below w.heap.size w w9 := bt c8 b9; have r9 : Rd w9 a0 z0 := Rd.below (w := w8) r8 (Nat.le_refl _) b9)
      | (go_at_call 19; refine (HCu.out _).mono ?_; rintro e w10 ⟨rfl, b10⟩; have c10 : Below w.heap.size w w10 := bt c9 b10; have r10 : Rd w10 a0 z0 := Rd.below (w := w9) r9 (Nat.le_refl _) b10)
      | (go_at_call_of 15 (Value.slice A2 (z0.length - K) (c0 - K)); refine (HT2.out _ (by assumption)).mono ?_; rintro e w11 ⟨rfl, rfl⟩)))
    go_wp2_with fail
    go_ret
    exact ⟨rfl, c10⟩

set_option maxRecDepth 100000 in
theorem lifted (os : Os) (started : os.Started) (H : Type) (enc : TypeId × Value → H) :
    ReturnsInHanded {} Tryd.checked os 5 .any (fun w args => (Rows.letterBackSpec.pre enc Tryd.prog Tryd.f5 [] false w args ∧ laidMetH Tryd.prog Rows.letterBackRow.laid w) ∧ sizedMet enc Tryd.prog Tryd.f5 (OpenSpec.ofChange Rows.letterBackSpec) false w args) (Rows.letterBackSpec.post enc Tryd.prog Tryd.f5 false true false false) := by
  refine returnsInHanded_of_change_and (C := Tryd.checked) (X := fun w _ => laidMetH Tryd.prog Rows.letterBackRow.laid w) (fun _ _ _ hh h => h.of_heap hh) own started (by kernel_rfl) Tryd.func5
    (ChangeSpec.witness_shaped (enc := enc) (C := Tryd.checked) (os := os) (X := fun w _ => laidMetH Tryd.prog Rows.letterBackRow.laid w) false (World.laidAll Tryd.prog os Rows.letterBackRow.laid) #[.slice none 0 0, .int .i64 0] 8 (World.laidAll_os _ _ _)
      (World.shaped_of_ZipB (by kernel_rfl) (by kernel_rfl)) (by kernel_rfl) (by kernel_rfl) (by kernel_rfl)
      (by rw [MakeChecks.laidMetH_plain _ _ _ (by kernel_rfl)]; exact laidMet_laidAll _ (by kernel_rfl) (by kernel_rfl))) ?_
  intro W base args ds gs before hval0 hW _ _ hL _
  have hval : ∀ (j : Nat) t v, Tryd.f5.params[j]? = some t → args[j]? = some v → Value.okWide Tryd.prog W .any base t v := hval0
  have hW' := hW
  obtain ⟨p, q, hA0, hV, rfl, hfz, hnd⟩ := hW
  have hA : DataW.TrodAll enc Tryd.prog W 0 (fun _ => true) true Tryd.f5.params.toList args.toList ds p := hA0
  rw [Tryd.params5] at hA hval
  obtain ⟨v0, vs0, d0, ds0, p0, q0, hargs, rfl, rfl, h0, r0⟩ := trodAll_cons hA
  obtain ⟨v1, vs1, d1, ds1, p1, q1, rfl, rfl, rfl, h1, r1⟩ := trodAll_cons r0
  obtain ⟨rfl, rfl, rfl⟩ := trodAll_nil r1
  obtain rfl : args = #[v0, v1] := by cases args; simp_all
  obtain ⟨rfl, rfl⟩ := trodVars_none hV
  obtain ⟨a0, l0, c0, rfl⟩ := okWide_slice Tryd.underlying32 (hval 0 32 v0 rfl rfl)
  have k0 := h0
  have lt0 : ∀ x ∈ p0, x.block < W.heap.size := by obtain ⟨m, hm⟩ := k0; exact DataW.trod_lt m _ _ _ hm
  obtain ⟨z0, w0⟩ : ∃ zs, Slc W a0 l0 c0 zs := by
    obtain ⟨fuel, hf⟩ := h0
    rcases open_ints Tryd.underlying32 Tryd.underlying21 (by kernel_rfl) hf with ⟨hcs, _⟩ | ⟨x, l, c, zs, hcs, _, hl, hm, hz, _, hcell, hwz⟩
    · simp [Value.cells] at hcs
      obtain ⟨rfl, rfl, rfl⟩ := hcs
      exact ⟨[], Slc.none_ W⟩
    · simp [Value.cells] at hcs
      obtain ⟨rfl, rfl, rfl⟩ := hcs
      exact ⟨_, Slc.some_ hl hm (by simpa using hz) hcell hwz⟩
  obtain ⟨a1, rfl, rfl, rfl, w1⟩ := open_int Tryd.underlying3 (hval 1 3 v1 rfl rfl) h1
  clear hA0 hval0
  rw [MakeChecks.laidMetH_plain _ _ _ (by kernel_rfl)] at hL
  have hT : Lib.Utf8Tabs 0 1 W := tabs_of_laid hL
  refine (walk a0 l0 c0 z0 a1 w1 W w0 hT).mono fun e W' ⟨he, bel⟩ => ?_
  subst he
  exact ⟨_, rfl, _, _, _, [], _, [], hW', trodAll_mk1 (shut_bool Tryd.underlying4 _), (trodAll_cons_mk (Below.trod laidOut (by kernel_rfl) (of_decide_eq_true (by kernel_rfl)) k0 bel lt0) (trodAll_cons_mk (shut_int Tryd.underlying3 w1) trodAll_mk0)), rfl, bel.frame _, fun h => by cases h⟩

theorem over : Rows.letterBackRow.holds Tryd.pinned (OpenSpec.ofChange Rows.letterBackSpec) :=
  OpenClaim.holds_of_wide 5 Tryd.f5 rfl rfl rfl rfl rfl rfl rfl ⟨rfl, rfl, rfl, rfl, rfl⟩ rfl rfl rfl rfl rfl (by kernel_rfl) Tryd.func5 (by kernel_rfl)
    (of_decide_eq_true (by kernel_rfl)) (by unfold Func.isWrapper; first | (rw [if_pos (by decide +kernel)]; kernel_rfl) | (rw [if_neg (by decide +kernel)]; exact ⟨rfl, rfl⟩))
    (fun os started H enc _ => lifted os started H enc)
theorem proved : Rows.LetterBackCardSaid :=
  Claim7.holds_tied_plain_at .later [] [.data, .pinned] true _ false
    over (fun _ h => by cases h) (by kernel_rfl) (fun _ h => by cases h) letterBack_row_tie rfl ⟨rfl, rfl⟩ (by kernel_rfl) rfl
    (fun f fn hf hfn => by
      obtain rfl : f = 5 := Option.some.inj ((show Tryd.prog.funcNamed "cobweb/cobweblaw01.LetterBack" = some 5 by kernel_rfl).symm.trans hf) |>.symm
      obtain rfl : fn = Tryd.f5 := (Option.some.inj (Tryd.func5.symm.trans hfn)).symm
      exact ⟨by kernel_rfl, fun j t ht => by
        rw [Tryd.params5] at ht
        have hm : t ∈ [32, 3] := by simpa using Array.mem_of_getElem? ht
        have hall : ([32, 3].all fun u => !Tryd.prog.wantsStandIn u) = true := by kernel_rfl
        exact (show Tryd.prog.wantsStandIn t = false by simpa using List.all_eq_true.1 hall t hm)⟩)
    (by kernel_rfl)
end Go.Proofs.YtcmikojlcckabaaDoor.letterBack
