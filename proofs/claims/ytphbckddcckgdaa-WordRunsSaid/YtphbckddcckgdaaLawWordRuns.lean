/- Taken one behind the other, stamps rise by one within an epoch, and begin with 1 in a later one (P4.3). -/
import Derived.Test.YtphbckddcckgdaaOpenN
import Derived.Test.YtphbckddcckgdaaWordLaws
namespace Go.Proofs.Ytphbckddcckgdaa.wordRuns
open Go.ChangeShapes Go.WideShapes Go.ChangeAt Go.RowKit
open Go.ChangeMaps (open_string shut_string)
set_option linter.unusedVariables false

set_option maxHeartbeats 40000000 in
set_option maxRecDepth 100000 in
theorem walk (a0 : Int) (a1 : Option Addr) (l1 c1 : Nat) (z1 : List Int) (w0 : (Lit.int .i64 a0).wf = true) (w : World) (w1 : SlcI w a1 l1 c1 z1) :
    Calls Try.prog 7 #[.int .i64 a0, .slice a1 l1 c1] w fun e w' => e = .returned (.bool true) ∧ Below w.heap.size w w' := by
  have he := wf_i64 w0
  obtain ⟨rfl, hlc, hrd, hus⟩ := w1
  have HR := Lib.hid hrd
  have HU := Lib.hid hus
  clear w0 hrd hus
  go_enter Try.func7, Try.ntmps7
  go_wp2_with fail
  refine (awake_any _).mono ?_
  rintro e x1 ⟨rfl, b1⟩
  by_cases hbig : 100 < z1.length
  · have hbig2 : (100 : Int) < (z1.length : Int) := by omega
    go_wp2_with fail
    refine (awake_any _).mono ?_
    rintro e x2 ⟨rfl, b2⟩
    go_wp2_with fail
    go_ret
    exact ⟨rfl, btW b1 b2⟩
  · have hbig2 : ¬ ((100 : Int) < (z1.length : Int)) := by omega
    have hl1 : z1.length ≤ 100 := by omega
    clear hbig
    obtain ⟨E0, E1⟩ := epoch_in a0
    obtain ⟨E, hE⟩ : ∃ x, (wrap64 (a0.tmod 1000000 + 1000000)).tmod 1000000 = x := ⟨_, rfl⟩
    rw [hE] at E0 E1
    by_cases hz : E = 0
    · subst hz
      go_wp2_with fail
      clear hE
      go_loopw [5, 6, 7, 8] (fun xe xl xs xi wr => ∃ (k : Nat) (ev lv sv : Int), k ≤ z1.length ∧ xe = .int .i64 ev ∧ xl = .int .u64 lv ∧ xs = .int .i64 sv ∧ xi = .int .i64 (k : Nat) ∧ 1 ≤ ev ∧ ev ≤ 1000000 + k ∧ 0 ≤ sv ∧ sv ≤ k ∧ (epochW lv < ev ∧ sv = 0 ∨ lv = ev * 2147483648 + sv ∧ 1 ≤ sv) ∧ U64 lv ∧ Below w.heap.size w wr) (fun _ _ _ xi _ => z1.length - (intOf xi).toNat)
      case atStart => exact ⟨0, 1, 0, 0, Nat.zero_le _, rfl, rfl, rfl, rfl, by omega, by omega, by omega, by omega, .inl ⟨by show (0 : Int) % 4611686018427387904 / 2147483648 < _; omega, rfl⟩, ⟨by decide, by decide⟩, b1⟩
      case round =>
        obtain ⟨k, ev, lv, sv, hk, rfl, rfl, rfl, rfl, g1, g2, g3, g4, hl, hu, hbw⟩ := hrel
        by_cases hlt : k < z1.length
        · obtain ⟨ad, rfl, hblk, hcell⟩ := (HR.out.below (Nat.le_refl _) hbw) k hlt
          obtain ⟨u, huu⟩ : ∃ x, z1.getD k 0 = x := ⟨_, rfl⟩
          rw [huu] at hcell
          have w1 : IntKind.i64.wrap (ev + 1) = ev + 1 := IntWalk.i64_in _ (by omega)
          have w2 : IntKind.i64.wrap (sv + 1) = sv + 1 := IntWalk.i64_in _ (by omega)
          clear huu
          cases hb : (u.tmod 3 == 0) with
          | true =>
            have hl2 : epochW lv < ev + 1 := by
              rcases hl with ⟨h, _⟩ | ⟨h, _⟩
              · omega
              · rw [h]; unfold epochW; omega
            have hn := next_run (l := lv) (e := (ev + 1)) (s := 0) (by omega) (by omega) (by omega) (by omega) (.inl ⟨hl2, rfl⟩)
            have CN := fun W => wordNext_any lv (ev + 1) W hu ⟨by omega, by omega⟩
            rw [hn] at CN
            obtain ⟨q1, q2⟩ := run_facts (e := (ev + 1)) (s := 0 + 1) (by omega) (by omega) (by omega) (by omega)
            have CP := fun W => wordParts_any ((ev + 1) * 2147483648 + (0 + 1)) W q1
            rw [q2] at CP
            obtain ⟨nx, hnx⟩ : ∃ x, (ev + 1) * 2147483648 + (0 + 1) = x := ⟨_, rfl⟩
            rw [hnx] at CN CP q1
            have HCN := Lib.hid CN
            have HCP := Lib.hid CP
            have HNX := Lib.hid hnx
            clear CN CP hn q2 hnx hl hu
            go_wp2_with fail
            refine (HCN.out _).mono ?_
            rintro e y1 ⟨rfl, d1⟩
            have D1 := btW hbw d1
            go_wp2_with fail
            refine (HCP.out _).mono ?_
            rintro e y2 ⟨rfl, d2⟩
            have D2 := btW D1 d2
            obtain ⟨c0, c1', c2, c3⟩ := BoxT.new y2 ((ev + 1)) (1) false false
            go_wp2_with fail
            go_roundw
            case rel => exact ⟨k + 1, (ev + 1), nx, 0 + 1, by omega, rfl, rfl, rfl, by go_num, by omega, by omega, by omega, by omega, .inr ⟨HNX.out.symm, by omega⟩, q1, D2.alloc D2.size _⟩
            case measure => simp [intOf]; omega
          | false =>
            have hn := next_run (l := lv) (e := ev) (s := sv) (by omega) (by omega) (by omega) (by omega) hl
            have CN := fun W => wordNext_any lv ev W hu ⟨by omega, by omega⟩
            rw [hn] at CN
            obtain ⟨q1, q2⟩ := run_facts (e := ev) (s := sv + 1) (by omega) (by omega) (by omega) (by omega)
            have CP := fun W => wordParts_any (ev * 2147483648 + (sv + 1)) W q1
            rw [q2] at CP
            obtain ⟨nx, hnx⟩ : ∃ x, ev * 2147483648 + (sv + 1) = x := ⟨_, rfl⟩
            rw [hnx] at CN CP q1
            have HCN := Lib.hid CN
            have HCP := Lib.hid CP
            have HNX := Lib.hid hnx
            clear CN CP hn q2 hnx hl hu
            go_wp2_with fail
            refine (HCN.out _).mono ?_
            rintro e y1 ⟨rfl, d1⟩
            have D1 := btW hbw d1
            go_wp2_with fail
            refine (HCP.out _).mono ?_
            rintro e y2 ⟨rfl, d2⟩
            have D2 := btW D1 d2
            obtain ⟨c0, c1', c2, c3⟩ := BoxT.new y2 (ev) (sv + 1) false false
            go_wp2_with fail
            go_roundw
            case rel => exact ⟨k + 1, ev, nx, sv + 1, by omega, rfl, rfl, rfl, by go_num, by omega, by omega, by omega, by omega, .inr ⟨HNX.out.symm, by omega⟩, q1, D2.alloc D2.size _⟩
            case measure => simp [intOf]; omega
        · obtain rfl : k = z1.length := by omega
          go_wp2_with fail
          go_ret
          exact ⟨rfl, hbw⟩
    · have hz2 : (E == 0) = false := by simpa using hz
      go_wp2_with fail
      clear hE
      go_loopw [5, 6, 7, 8] (fun xe xl xs xi wr => ∃ (k : Nat) (ev lv sv : Int), k ≤ z1.length ∧ xe = .int .i64 ev ∧ xl = .int .u64 lv ∧ xs = .int .i64 sv ∧ xi = .int .i64 (k : Nat) ∧ 1 ≤ ev ∧ ev ≤ 1000000 + k ∧ 0 ≤ sv ∧ sv ≤ k ∧ (epochW lv < ev ∧ sv = 0 ∨ lv = ev * 2147483648 + sv ∧ 1 ≤ sv) ∧ U64 lv ∧ Below w.heap.size w wr) (fun _ _ _ xi _ => z1.length - (intOf xi).toNat)
      case atStart => exact ⟨0, E, 0, 0, Nat.zero_le _, rfl, rfl, rfl, rfl, by omega, by omega, by omega, by omega, .inl ⟨by show (0 : Int) % 4611686018427387904 / 2147483648 < _; omega, rfl⟩, ⟨by decide, by decide⟩, b1⟩
      case round =>
        obtain ⟨k, ev, lv, sv, hk, rfl, rfl, rfl, rfl, g1, g2, g3, g4, hl, hu, hbw⟩ := hrel
        by_cases hlt : k < z1.length
        · obtain ⟨ad, rfl, hblk, hcell⟩ := (HR.out.below (Nat.le_refl _) hbw) k hlt
          obtain ⟨u, huu⟩ : ∃ x, z1.getD k 0 = x := ⟨_, rfl⟩
          rw [huu] at hcell
          have w1 : IntKind.i64.wrap (ev + 1) = ev + 1 := IntWalk.i64_in _ (by omega)
          have w2 : IntKind.i64.wrap (sv + 1) = sv + 1 := IntWalk.i64_in _ (by omega)
          clear huu
          cases hb : (u.tmod 3 == 0) with
          | true =>
            have hl2 : epochW lv < ev + 1 := by
              rcases hl with ⟨h, _⟩ | ⟨h, _⟩
              · omega
              · rw [h]; unfold epochW; omega
            have hn := next_run (l := lv) (e := (ev + 1)) (s := 0) (by omega) (by omega) (by omega) (by omega) (.inl ⟨hl2, rfl⟩)
            have CN := fun W => wordNext_any lv (ev + 1) W hu ⟨by omega, by omega⟩
            rw [hn] at CN
            obtain ⟨q1, q2⟩ := run_facts (e := (ev + 1)) (s := 0 + 1) (by omega) (by omega) (by omega) (by omega)
            have CP := fun W => wordParts_any ((ev + 1) * 2147483648 + (0 + 1)) W q1
            rw [q2] at CP
            obtain ⟨nx, hnx⟩ : ∃ x, (ev + 1) * 2147483648 + (0 + 1) = x := ⟨_, rfl⟩
            rw [hnx] at CN CP q1
            have HCN := Lib.hid CN
            have HCP := Lib.hid CP
            have HNX := Lib.hid hnx
            clear CN CP hn q2 hnx hl hu
            go_wp2_with fail
            refine (HCN.out _).mono ?_
            rintro e y1 ⟨rfl, d1⟩
            have D1 := btW hbw d1
            go_wp2_with fail
            refine (HCP.out _).mono ?_
            rintro e y2 ⟨rfl, d2⟩
            have D2 := btW D1 d2
            obtain ⟨c0, c1', c2, c3⟩ := BoxT.new y2 ((ev + 1)) (1) false false
            go_wp2_with fail
            go_roundw
            case rel => exact ⟨k + 1, (ev + 1), nx, 0 + 1, by omega, rfl, rfl, rfl, by go_num, by omega, by omega, by omega, by omega, .inr ⟨HNX.out.symm, by omega⟩, q1, D2.alloc D2.size _⟩
            case measure => simp [intOf]; omega
          | false =>
            have hn := next_run (l := lv) (e := ev) (s := sv) (by omega) (by omega) (by omega) (by omega) hl
            have CN := fun W => wordNext_any lv ev W hu ⟨by omega, by omega⟩
            rw [hn] at CN
            obtain ⟨q1, q2⟩ := run_facts (e := ev) (s := sv + 1) (by omega) (by omega) (by omega) (by omega)
            have CP := fun W => wordParts_any (ev * 2147483648 + (sv + 1)) W q1
            rw [q2] at CP
            obtain ⟨nx, hnx⟩ : ∃ x, ev * 2147483648 + (sv + 1) = x := ⟨_, rfl⟩
            rw [hnx] at CN CP q1
            have HCN := Lib.hid CN
            have HCP := Lib.hid CP
            have HNX := Lib.hid hnx
            clear CN CP hn q2 hnx hl hu
            go_wp2_with fail
            refine (HCN.out _).mono ?_
            rintro e y1 ⟨rfl, d1⟩
            have D1 := btW hbw d1
            go_wp2_with fail
            refine (HCP.out _).mono ?_
            rintro e y2 ⟨rfl, d2⟩
            have D2 := btW D1 d2
            obtain ⟨c0, c1', c2, c3⟩ := BoxT.new y2 (ev) (sv + 1) false false
            go_wp2_with fail
            go_roundw
            case rel => exact ⟨k + 1, ev, nx, sv + 1, by omega, rfl, rfl, rfl, by go_num, by omega, by omega, by omega, by omega, .inr ⟨HNX.out.symm, by omega⟩, q1, D2.alloc D2.size _⟩
            case measure => simp [intOf]; omega
        · obtain rfl : k = z1.length := by omega
          go_wp2_with fail
          go_ret
          exact ⟨rfl, hbw⟩

set_option maxRecDepth 100000 in
theorem lifted (os : Os) (started : os.Started) (H : Type) (enc : TypeId × Value → H) :
    ReturnsInHanded {} Try.checked os 7 .any (Rows.wordRunsSpec.pre6 enc Try.prog Try.f7 Rows.wordRunsRow.domain false) (Rows.wordRunsSpec.post enc Try.prog Try.f7 false true false false) := by
  refine returnsInHanded_of_change (C := Try.checked) own started (by kernel_rfl) Try.func7
    (ChangeSpec.witness6 (enc := enc) (C := Try.checked) false ⟨#[], #[.int .i64 0, .slice none 0 0], []⟩ 8 (by kernel_rfl) (by kernel_rfl) (by kernel_rfl) (by kernel_rfl)) ?_
  intro W base args ds gs before hval0 hW hcnd _
  have hval : ∀ (j : Nat) t v, Try.f7.params[j]? = some t → args[j]? = some v → Value.okWide Try.prog W .any base t v := hval0
  have hW' := hW
  obtain ⟨p, q, hA0, hV, rfl, hfz, hnd⟩ := hW
  have hA : DataW.TrodAll enc Try.prog W 0 (fun _ => true) true Try.f7.params.toList args.toList ds p := hA0
  rw [Try.params7] at hA hval
  obtain ⟨v0, vs0, d0, ds0, p0, q0, hargs, rfl, rfl, h0, r0⟩ := trodAll_cons hA
  obtain ⟨v1, vs1, d1, ds1, p1, q1, rfl, rfl, rfl, h1, r1⟩ := trodAll_cons r0
  obtain ⟨rfl, rfl, rfl⟩ := trodAll_nil r1
  obtain rfl : args = #[v0, v1] := by cases args; simp_all
  obtain ⟨rfl, rfl⟩ := trodVars_none hV
  obtain ⟨a0, rfl, rfl, rfl, w0⟩ := open_int Try.underlying3 (hval 0 3 v0 rfl rfl) h0
  obtain ⟨a1, l1, c1, rfl⟩ := okWide_slice Try.underlying48 (hval 1 48 v1 rfl rfl)
  have k1 := h1
  have lt1 : ∀ x ∈ p1, x.block < W.heap.size := by obtain ⟨m, hm⟩ := k1; exact DataW.trod_lt m _ _ _ hm
  obtain ⟨z1, w1⟩ : ∃ zs, SlcI W a1 l1 c1 zs := by
    obtain ⟨fuel, hf⟩ := h1
    rcases open_ints Try.underlying48 Try.underlying3 (by kernel_rfl) hf with ⟨hcs, _⟩ | ⟨x, l, c, zs, hcs, _, hl, hm, hz, _, hcell, hwz⟩
    · simp [Value.cells] at hcs
      obtain ⟨rfl, rfl, rfl⟩ := hcs
      exact ⟨[], SlcI.none_ W⟩
    · simp [Value.cells] at hcs
      obtain ⟨rfl, rfl, rfl⟩ := hcs
      exact ⟨_, SlcI.some_ hl (by simpa using hz) hcell hwz⟩
  clear hA0 hval0
  refine (walk a0 a1 l1 c1 z1 w0 W w1).mono fun e W' ⟨he, bel⟩ => ?_
  subst he
  exact ⟨_, rfl, _, _, _, [], _, [], hW', trodAll_mk1 (shut_bool Try.underlying4 _), (trodAll_cons_mk (shut_int Try.underlying3 w0) (trodAll_cons_mk (Below.trod laidOut (by kernel_rfl) (of_decide_eq_true (by kernel_rfl)) k1 bel lt1) trodAll_mk0)), rfl, bel.frame _, fun h => by cases h⟩

theorem over : Rows.wordRunsRow.holds Try.pinned (OpenSpec.ofChange Rows.wordRunsSpec) :=
  OpenClaim.holds_of_wide 7 Try.f7 rfl rfl rfl rfl rfl rfl rfl ⟨rfl, rfl, rfl, rfl, rfl⟩ rfl rfl rfl rfl rfl (by kernel_rfl) Try.func7 (by kernel_rfl)
    (of_decide_eq_true (by kernel_rfl)) (by unfold Func.isWrapper; first | (rw [if_pos (by decide +kernel)]; kernel_rfl) | (rw [if_neg (by decide +kernel)]; exact ⟨rfl, rfl⟩))
    (fun os started H enc _ => lifted os started H enc)
theorem proved : Rows.WordRunsSaid := over
end Go.Proofs.Ytphbckddcckgdaa.wordRuns
