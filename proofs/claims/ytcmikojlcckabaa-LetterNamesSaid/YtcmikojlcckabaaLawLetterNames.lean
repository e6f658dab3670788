/- Whatever the list of texts, LetterNames answers true and the list reads behind the call as before; under no condition. -/
import Derived.Test.YtcmikojlcckabaaOpen
import Derived.Test.YtcmikojlcckabaaRef
namespace Go.Proofs.Ytcmikojlcckabaa.letterNames
open Go.ChangeShapes Go.WideShapes Go.ChangeAt Go.RowKit
open Go.ChangeMaps (open_string shut_string)
set_option linter.unusedVariables false

set_option maxHeartbeats 4000000 in
set_option maxRecDepth 100000 in
theorem walk (a0 : Option Addr) (l0 c0 : Nat) (z0 : List ByteArray)  (w : World) (w0 : SlcS w a0 l0 c0 z0) :
    Calls Try.prog 3 #[.slice a0 l0 c0] w fun e w' => e = .returned (.bool true) ∧ Below w.heap.size w w' := by
  obtain ⟨rfl, hlc, hrd, hsz⟩ := w0
  have HRd := Lib.hid hrd
  have HSz := Lib.hid hsz
  clear hrd hsz
  by_cases hbig : 50 < z0.length
  · go_enter Try.func3, Try.ntmps3
    go_wp2_with fail
    refine (awake_any _).mono ?_
    rintro e w1 ⟨rfl, b1⟩
    go_wp2_with fail
    refine (awake_any _).mono ?_
    rintro e w2 ⟨rfl, b2⟩
    go_wp2_with fail
    go_ret
    exact ⟨rfl, bt b1 b2⟩
  · have hlen : z0.length ≤ 50 := by omega
    clear hbig
    go_enter Try.func3, Try.ntmps3
    go_wp2_with fail
    refine (awake_any _).mono ?_
    rintro e w1 ⟨rfl, b1⟩
    go_wp2_with fail
    go_loopw [3, 4] (fun x i wr => ∃ (k : Nat), k ≤ z0.length ∧ i = .int .i64 (k : Nat) ∧ x = .bool ((z0.take k).all nameB) ∧ (∀ j, j < k → (z0.getD j ByteArray.empty).size ≤ 1000) ∧ Below w.heap.size w wr) (fun _ i _ => z0.length - (intOf i).toNat)
    case atStart => exact ⟨0, Nat.zero_le _, rfl, rfl, fun j hj => absurd hj (by omega), b1⟩
    case round =>
      obtain ⟨k, hk, rfl, rfl, hszk, hbw⟩ := hrel
      clear b1
      have HK := Lib.hid hszk
      clear hszk
      obtain ⟨al, hal⟩ : ∃ al, (z0.take k).all nameB = al := ⟨_, rfl⟩
      have HAl := Lib.hid hal
      by_cases hlt : k < z0.length
      · have hrdw := HRd.out.below (Nat.le_refl _) hbw
        obtain ⟨ad, rfl, hcell⟩ := hrdw.at1 hlt
        have hall : (z0.take (k + 1)).all nameB = ((z0.take k).all nameB && nameB (z0.getD k ByteArray.empty)) := by
          rw [List.take_succ_eq_append_getElem hlt, List.all_append]
          simp [List.getD_eq_getElem?_getD, List.getElem?_eq_getElem hlt]
        have hadb : ad.block < w.heap.size := by
          obtain ⟨ad', e, hb, _⟩ := HRd.out k hlt
          obtain rfl : ad = ad' := by injection e
          exact hb
        have hkp : ∀ W', Below wr.heap.size wr W' → W'.cell? (ad.add k) = some (.string (z0.getD k ByteArray.empty)) := fun W' hb' => by
          rw [World.cell?_of_block (hb'.block _ (by rw [show (ad.add k).block = ad.block from by unfold Addr.add; split <;> rfl]; have := hbw.size; omega))]
          exact hcell
        rw [hal] at hall ⊢
        clear hal
        obtain ⟨s, hs⟩ : ∃ s, z0.getD k ByteArray.empty = s := ⟨_, rfl⟩
        rw [hs] at hcell hall hkp
        have HAll := Lib.hid hall
        have HKp := Lib.hid hkp
        have HS := Lib.hid hs
        clear hall hkp hs hrdw
        by_cases hbig : 1000 < s.size
        · go_wp2_with fail
          go_ret
          exact ⟨rfl, hbw⟩
        · have hsl : s.size ≤ 1000 := by omega
          have h1 : ∀ W, Calls Try.prog 8 #[.string s] W fun e w' => e = .returned (.bool (nameB s)) ∧ Below W.heap.size W w' := fun W => refRight_any s W (by omega)
          have h2 : ∀ W, Calls Try.prog 9 #[.slice (some ⟨W.heap.size, 0, none⟩) 1 1] (W.alloc (.cells #[.string s] 9)) fun e w' => e = .returned (.bool (nameB s)) ∧ Below W.heap.size W w' := fun W => right_new W s _ rfl (by omega)
          obtain ⟨nb, hnb⟩ : ∃ nb, nameB s = nb := ⟨_, rfl⟩
          rw [hnb] at h1 h2
          have HNb := Lib.hid hnb
          have H1 := Lib.hid h1
          have H2 := Lib.hid h2
          clear h1 h2 hbig hnb
          go_wp2_with fail
          refine (H1.out _).mono ?_
          rintro e w2 ⟨rfl, b2⟩
          have hcell2 := HKp.out _ b2
          cases nb
          all_goals
            cases al
            all_goals
              go_wp2_with fail
              refine (H2.out _).mono ?_
              rintro e w3 ⟨rfl, b3⟩
              go_wp2_with fail
              go_roundw
              all_goals first
                | (exact ⟨k + 1, by omega, by go_num, by rw [HAll.out, HNb.out]; rfl, fun j hj => by
                    rcases Nat.lt_or_ge j k with h | h
                    · exact HK.out j h
                    · obtain rfl : j = k := by omega
                      rw [HS.out]; exact hsl, bt (bt hbw b2) b3⟩)
                | (simp [intOf]; omega)
      · obtain rfl : k = z0.length := by omega
        have hr : Calls Try.prog 9 #[.slice a0 z0.length c0] wr fun e w' => e = .returned (.bool (z0.all nameB)) ∧ Below wr.heap.size wr w' :=
          right_any a0 c0 _ z0 wr (HRd.out.below (Nat.le_refl _) hbw) rfl hlc (by omega) (fun j hj => by have := HK.out j hj; omega)
        rw [List.take_length] at hal HAl
        rw [hal] at hr
        have HR := Lib.hid hr
        clear hr
        rw [List.take_length, hal]
        clear hal
        cases al
        all_goals
          go_wp2_with fail
          refine HR.out.mono ?_
          rintro e w2 ⟨rfl, b2⟩
          go_wp2_with fail
          go_ret
          exact ⟨rfl, bt hbw b2⟩

set_option maxRecDepth 100000 in
theorem lifted (os : Os) (started : os.Started) (H : Type) (enc : TypeId × Value → H) :
    ReturnsInHanded {} Try.checked os 3 .any (Rows.letterNamesSpec.pre6 enc Try.prog Try.f3 Rows.letterNamesRow.domain false) (Rows.letterNamesSpec.post enc Try.prog Try.f3 false true false false) := by
  refine returnsInHanded_of_change (C := Try.checked) own started (by kernel_rfl) Try.func3
    (ChangeSpec.witness6 (enc := enc) (C := Try.checked) false ⟨#[], #[.slice none 0 0], []⟩ 8 (by kernel_rfl) (by kernel_rfl) (by kernel_rfl) (by kernel_rfl)) ?_
  intro W base args ds gs before hval0 hW hcnd _
  have hval : ∀ (j : Nat) t v, Try.f3.params[j]? = some t → args[j]? = some v → Value.okWide Try.prog W .any base t v := hval0
  have hW' := hW
  obtain ⟨p, q, hA0, hV, rfl, hfz, hnd⟩ := hW
  have hA : DataW.TrodAll enc Try.prog W 0 (fun _ => true) true Try.f3.params.toList args.toList ds p := hA0
  rw [Try.params3] at hA hval
  obtain ⟨v0, vs0, d0, ds0, p0, q0, hargs, rfl, rfl, h0, r0⟩ := trodAll_cons hA
  obtain ⟨rfl, rfl, rfl⟩ := trodAll_nil r0
  obtain rfl : args = #[v0] := by cases args; simp_all
  obtain ⟨rfl, rfl⟩ := trodVars_none hV
  obtain ⟨a0, l0, c0, rfl⟩ := okWide_slice Try.underlying22 (hval 0 22 v0 rfl rfl)
  have k0 := h0
  have lt0 : ∀ x ∈ p0, x.block < W.heap.size := by obtain ⟨m, hm⟩ := k0; exact DataW.trod_lt m _ _ _ hm
  obtain ⟨z0, w0⟩ : ∃ zs, SlcS W a0 l0 c0 zs := by
    obtain ⟨fuel, hf⟩ := h0
    rcases open_strings Try.underlying22 Try.underlying9 (by kernel_rfl) hf with ⟨hcs, _⟩ | ⟨x, l, c, zs, hcs, _, hl, hm, hz, _, hcell, hwz⟩
    · simp [Value.cells] at hcs
      obtain ⟨rfl, rfl, rfl⟩ := hcs
      exact ⟨[], SlcS.none_ W⟩
    · simp [Value.cells] at hcs
      obtain ⟨rfl, rfl, rfl⟩ := hcs
      exact ⟨_, SlcS.some_ hl hm (by simpa using hz) hcell hwz⟩
  clear hA0 hval0
  refine (walk a0 l0 c0 z0  W w0).mono fun e W' ⟨he, bel⟩ => ?_
  subst he
  exact ⟨_, rfl, _, _, _, [], _, [], hW', trodAll_mk1 (shut_bool Try.underlying4 _), (trodAll_cons_mk (Below.trod laidOut (by kernel_rfl) (of_decide_eq_true (by kernel_rfl)) k0 bel lt0) trodAll_mk0), rfl, bel.frame _, fun h => by cases h⟩

theorem over : Rows.letterNamesRow.holds Try.pinned (OpenSpec.ofChange Rows.letterNamesSpec) :=
  OpenClaim.holds_of_wide 3 Try.f3 rfl rfl rfl rfl rfl rfl rfl ⟨rfl, rfl, rfl, rfl, rfl⟩ rfl rfl rfl rfl rfl (by kernel_rfl) Try.func3 (by kernel_rfl)
    (of_decide_eq_true (by kernel_rfl)) (by unfold Func.isWrapper; first | (rw [if_pos (by decide +kernel)]; kernel_rfl) | (rw [if_neg (by decide +kernel)]; exact ⟨rfl, rfl⟩))
    (fun os started H enc _ => lifted os started H enc)
theorem proved : Rows.LetterNamesSaid := over
end Go.Proofs.Ytcmikojlcckabaa.letterNames
