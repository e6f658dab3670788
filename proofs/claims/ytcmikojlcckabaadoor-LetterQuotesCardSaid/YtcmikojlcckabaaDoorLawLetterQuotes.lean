/- Whatever the text, LetterQuotes answers true and it reads behind the call as before: where utf8's two tables hold what the library's text lays (the card ties that). -/
import Derived.Test.YtcmikojlcckabaaDoorDoor
import Derived.Test.YtcmikojlcckabaaDoorRefQuote
namespace Go.Proofs.YtcmikojlcckabaaDoor.letterQuotes
open Go.ChangeShapes Go.WideShapes Go.ChangeAt Go.RowKit
open Go.ChangeMaps (open_string shut_string)
set_option linter.unusedVariables false

set_option maxHeartbeats 4000000 in
set_option maxRecDepth 100000 in
theorem walk (a0 : ByteArray) (w0 : a0.size ≤ maxLen) (w : World)  (hT : Lib.Utf8Tabs 0 1 w) :
    Calls Tryd.prog 4 #[.string a0] w fun e w' => e = .returned (.bool true) ∧ Below w.heap.size w w' := by
  clear w0
  have HT := Lib.hid hT
  clear hT
  by_cases hbig : 2000 < a0.size
  · go_enter Tryd.func4, Tryd.ntmps4
    go_wp2_with fail
    refine (awake_any _).mono ?_
    rintro e w1 ⟨rfl, b1⟩
    go_wp2_with fail
    refine (awake_any _).mono ?_
    rintro e w2 ⟨rfl, b2⟩
    go_wp2_with fail
    go_ret
    exact ⟨rfl, bt b1 b2⟩
  · have hs : a0.size ≤ 1000000 := by omega
    have c1 := fun W hW => unquote_any a0 W hs hW
    have c3 := fun W => quote_any a0 W hs
    have c4 := fun W => refQuote_any a0 W hs
    by_cases h2 : a0.size < 2
    · have hn : unquoteL a0.data.toList = none := by unfold unquoteL; rw [size_list, if_neg (by omega)]
      rw [hn] at c1
      have c2 := fun W => refUnquote_short a0 W h2
      generalize (⟨(quoteL a0.data.toList).toArray⟩ : ByteArray) = Q at *
      unfold unescV at c1
      have C1 := Lib.hid c1; have C2 := Lib.hid c2; have C3 := Lib.hid c3; have C4 := Lib.hid c4
      clear c1 c2 c3 c4 hn
      go_enter Tryd.func4, Tryd.ntmps4
      go_wp2_with fail
      refine (awake_any _).mono ?_
      rintro e w1 ⟨rfl, b1⟩
      have t1 := Lib.hid (Utf8Tabs_below HT.out b1)
      go_wp2_with fail
      refine (C1.out _ t1.out).mono ?_
      rintro e w2 ⟨rfl, b2⟩
      go_wp2_with fail
      refine (C2.out _).mono ?_
      rintro e w3 ⟨rfl, b3⟩
      go_wp2_with fail
      refine (C3.out _).mono ?_
      rintro e w4 ⟨rfl, b4⟩
      go_wp2_with fail
      refine (C4.out _).mono ?_
      rintro e w5 ⟨rfl, b5⟩
      go_wp2_with fail
      go_ret
      exact ⟨rfl, bt (bt (bt (bt b1 b2) b3) b4) b5⟩
    · have h2' : 2 ≤ a0.size := by omega
      have hlen : 2 ≤ a0.data.toList.length := by rw [size_list]; exact h2'
      cases hu : unquoteL a0.data.toList with
      | some t =>
        obtain ⟨hq, hub⟩ := unquote_sound _ _ hu
        have hqb : ((⟨(quoteL (ub (a0.data.toList.drop 1).dropLast)).toArray⟩ : ByteArray).toList == a0.toList) = true := by
          rw [hub, hq, beq_iff_eq]
        have c2 := fun W => refUnquote_any a0 W h2' hs true hqb
        rw [hub] at c2
        rw [hu] at c1
        unfold unescV at c1
        dsimp only at c1
        generalize (⟨(quoteL a0.data.toList).toArray⟩ : ByteArray) = Q at *
        generalize (⟨t.toArray⟩ : ByteArray) = T at *
        have C1 := Lib.hid c1; have C2 := Lib.hid c2; have C3 := Lib.hid c3; have C4 := Lib.hid c4
        clear c1 c2 c3 c4 hu hub hq hqb hlen h2
        go_enter Tryd.func4, Tryd.ntmps4
        go_wp2_with fail
        refine (awake_any _).mono ?_
        rintro e w1 ⟨rfl, b1⟩
        have t1 := Lib.hid (Utf8Tabs_below HT.out b1)
        go_wp2_with fail
        refine (C1.out _ t1.out).mono ?_
        rintro e w2 ⟨rfl, b2⟩
        go_wp2_with fail
        refine (C2.out _).mono ?_
        rintro e w3 ⟨rfl, b3⟩
        go_wp2_with fail
        refine (C3.out _).mono ?_
        rintro e w4 ⟨rfl, b4⟩
        go_wp2_with fail
        refine (C4.out _).mono ?_
        rintro e w5 ⟨rfl, b5⟩
        go_wp2_with fail
        go_ret
        exact ⟨by first | rfl | simp, bt (bt (bt (bt b1 b2) b3) b4) b5⟩
      | none =>
        have hqb : ((⟨(quoteL (ub (a0.data.toList.drop 1).dropLast)).toArray⟩ : ByteArray).toList == a0.toList) = false := by
          rw [beq_eq_false_iff_ne]
          intro e
          rw [ByteArray.toList_eq, ByteArray.toList_eq] at e
          have := unquote_full a0.data.toList hlen (by simpa using e)
          rw [hu] at this
          cases this
        have c2 := fun W => refUnquote_any a0 W h2' hs false hqb
        rw [hu] at c1
        unfold unescV at c1
        generalize (⟨(quoteL a0.data.toList).toArray⟩ : ByteArray) = Q at *
        generalize (⟨(ub (a0.data.toList.drop 1).dropLast).toArray⟩ : ByteArray) = T at *
        have C1 := Lib.hid c1; have C2 := Lib.hid c2; have C3 := Lib.hid c3; have C4 := Lib.hid c4
        clear c1 c2 c3 c4 hu hqb hlen h2
        go_enter Tryd.func4, Tryd.ntmps4
        go_wp2_with fail
        refine (awake_any _).mono ?_
        rintro e w1 ⟨rfl, b1⟩
        have t1 := Lib.hid (Utf8Tabs_below HT.out b1)
        go_wp2_with fail
        refine (C1.out _ t1.out).mono ?_
        rintro e w2 ⟨rfl, b2⟩
        go_wp2_with fail
        refine (C2.out _).mono ?_
        rintro e w3 ⟨rfl, b3⟩
        go_wp2_with fail
        refine (C3.out _).mono ?_
        rintro e w4 ⟨rfl, b4⟩
        go_wp2_with fail
        refine (C4.out _).mono ?_
        rintro e w5 ⟨rfl, b5⟩
        go_wp2_with fail
        go_ret
        exact ⟨rfl, bt (bt (bt (bt b1 b2) b3) b4) b5⟩

set_option maxRecDepth 100000 in
theorem lifted (os : Os) (started : os.Started) (H : Type) (enc : TypeId × Value → H) :
    ReturnsInHanded {} Tryd.checked os 4 .any (fun w args => (Rows.letterQuotesSpec.pre enc Tryd.prog Tryd.f4 [] false w args ∧ laidMetH Tryd.prog Rows.letterQuotesRow.laid w) ∧ sizedMet enc Tryd.prog Tryd.f4 (OpenSpec.ofChange Rows.letterQuotesSpec) false w args) (Rows.letterQuotesSpec.post enc Tryd.prog Tryd.f4 false true false false) := by
  refine returnsInHanded_of_change_and (C := Tryd.checked) (X := fun w _ => laidMetH Tryd.prog Rows.letterQuotesRow.laid w) (fun _ _ _ hh h => h.of_heap hh) own started (by kernel_rfl) Tryd.func4
    (ChangeSpec.witness_shaped (enc := enc) (C := Tryd.checked) (os := os) (X := fun w _ => laidMetH Tryd.prog Rows.letterQuotesRow.laid w) false (World.laidAll Tryd.prog os Rows.letterQuotesRow.laid) #[.string ByteArray.empty] 8 (World.laidAll_os _ _ _)
      (World.shaped_of_ZipB (by kernel_rfl) (by kernel_rfl)) (by kernel_rfl) (by kernel_rfl) (by kernel_rfl)
      (by rw [MakeChecks.laidMetH_plain _ _ _ (by kernel_rfl)]; exact laidMet_laidAll _ (by kernel_rfl) (by kernel_rfl))) ?_
  intro W base args ds gs before hval0 hW _ _ hL _
  have hval : ∀ (j : Nat) t v, Tryd.f4.params[j]? = some t → args[j]? = some v → Value.okWide Tryd.prog W .any base t v := hval0
  have hW' := hW
  obtain ⟨p, q, hA0, hV, rfl, hfz, hnd⟩ := hW
  have hA : DataW.TrodAll enc Tryd.prog W 0 (fun _ => true) true Tryd.f4.params.toList args.toList ds p := hA0
  rw [Tryd.params4] at hA hval
  obtain ⟨v0, vs0, d0, ds0, p0, q0, hargs, rfl, rfl, h0, r0⟩ := trodAll_cons hA
  obtain ⟨rfl, rfl, rfl⟩ := trodAll_nil r0
  obtain rfl : args = #[v0] := by cases args; simp_all
  obtain ⟨rfl, rfl⟩ := trodVars_none hV
  obtain ⟨a0, rfl, rfl, rfl, w0⟩ := open_string Tryd.underlying9 (hval 0 9 v0 rfl rfl) h0
  clear hA0 hval0
  rw [MakeChecks.laidMetH_plain _ _ _ (by kernel_rfl)] at hL
  have hT : Lib.Utf8Tabs 0 1 W := tabs_of_laid hL
  refine (walk a0 w0 W  hT).mono fun e W' ⟨he, bel⟩ => ?_
  subst he
  exact ⟨_, rfl, _, _, _, [], _, [], hW', trodAll_mk1 (shut_bool Tryd.underlying4 _), (trodAll_cons_mk (shut_string Tryd.underlying9 w0) trodAll_mk0), rfl, bel.frame _, fun h => by cases h⟩

theorem over : Rows.letterQuotesRow.holds Tryd.pinned (OpenSpec.ofChange Rows.letterQuotesSpec) :=
  OpenClaim.holds_of_wide 4 Tryd.f4 rfl rfl rfl rfl rfl rfl rfl ⟨rfl, rfl, rfl, rfl, rfl⟩ rfl rfl rfl rfl rfl (by kernel_rfl) Tryd.func4 (by kernel_rfl)
    (of_decide_eq_true (by kernel_rfl)) (by unfold Func.isWrapper; first | (rw [if_pos (by decide +kernel)]; kernel_rfl) | (rw [if_neg (by decide +kernel)]; exact ⟨rfl, rfl⟩))
    (fun os started H enc _ => lifted os started H enc)
theorem proved : Rows.LetterQuotesCardSaid :=
  Claim7.holds_tied_plain_at .later [] [.data, .pinned] true _ false
    over (fun _ h => by cases h) (by kernel_rfl) (fun _ h => by cases h) letterQuotes_row_tie rfl ⟨rfl, rfl⟩ (by kernel_rfl) rfl
    (fun f fn hf hfn => by
      obtain rfl : f = 4 := Option.some.inj ((show Tryd.prog.funcNamed "cobweb/cobweblaw01.LetterQuotes" = some 4 by kernel_rfl).symm.trans hf) |>.symm
      obtain rfl : fn = Tryd.f4 := (Option.some.inj (Tryd.func4.symm.trans hfn)).symm
      exact ⟨by kernel_rfl, fun j t ht => by
        rw [Tryd.params4] at ht
        have hm : t ∈ [9] := by simpa using Array.mem_of_getElem? ht
        have hall : ([9].all fun u => !Tryd.prog.wantsStandIn u) = true := by kernel_rfl
        exact (show Tryd.prog.wantsStandIn t = false by simpa using List.all_eq_true.1 hall t hm)⟩)
    (by kernel_rfl)
end Go.Proofs.YtcmikojlcckabaaDoor.letterQuotes
