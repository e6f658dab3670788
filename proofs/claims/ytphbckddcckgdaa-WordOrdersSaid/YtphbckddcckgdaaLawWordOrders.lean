/- Stamps are ordered by epoch, and then by sequence (P4.4). -/
import Derived.Test.YtphbckddcckgdaaOpenN
import Derived.Test.YtphbckddcckgdaaWordLaws
namespace Go.Proofs.Ytphbckddcckgdaa.wordOrders
open Go.ChangeShapes Go.WideShapes Go.ChangeAt Go.RowKit
open Go.ChangeMaps (open_string shut_string)
set_option linter.unusedVariables false

set_option maxHeartbeats 40000000 in
set_option maxRecDepth 100000 in
theorem walk (e0 s0 : Int) (l0 b0 : Bool) (e1 s1 : Int) (l1 b1 : Bool) (w0 : TidIn e0 s0) (w1 : TidIn e1 s1) (w : World)  :
    Calls Try.prog 6 #[tidV e0 s0 l0 b0, tidV e1 s1 l1 b1] w fun e w' => e = .returned (.bool true) ∧ Below w.heap.size w w' := by
  obtain ⟨he0, hs0⟩ := w0
  obtain ⟨he1, hs1⟩ := w1
  have cK0 := fun W => wordPack_any e0 s0 l0 b0 W he0 hs0
  have cK1 := fun W => wordPack_any e1 s1 l1 b1 W he1 hs1
  have cR0 := fun W => refRightT_any e0 s0 l0 b0 W
  have cR1 := fun W => refRightT_any e1 s1 l1 b1 W
  have hA := BoxT.new w e0 s0 l0 b0
  have hw1 : Below w.heap.size w (w.alloc (.cells #[.int .i64 e0, .int .i64 s0, .bool l0, .bool b0] 23)) := (Below.refl _ _).alloc (Nat.le_refl _) _
  have hsz : (w.alloc (.cells #[.int .i64 e0, .int .i64 s0, .bool l0, .bool b0] 23)).heap.size = w.heap.size + 1 := by simp
  have hB := BoxT.new (w.alloc (.cells #[.int .i64 e0, .int .i64 s0, .bool l0, .bool b0] 23)) e1 s1 l1 b1
  rw [hsz] at hB
  have hA2 := hA.below (B := w.heap.size + 1) (by omega) ((Below.refl (w.heap.size + 1) _).alloc (by rw [hsz]; exact Nat.le_refl _) (.cells #[.int .i64 e1, .int .i64 s1, .bool l1, .bool b1] 23))
  have hw2 := hw1.alloc hw1.size (.cells #[.int .i64 e1, .int .i64 s1, .bool l1, .bool b1] 23)
  have hsz2 : ((w.alloc (.cells #[.int .i64 e0, .int .i64 s0, .bool l0, .bool b0] 23)).alloc (.cells #[.int .i64 e1, .int .i64 s1, .bool l1, .bool b1] 23)).heap.size = w.heap.size + 2 := by simp
  have HA := Lib.hid hA2; have HB := Lib.hid hB
  have HK0 := Lib.hid cK0; have HK1 := Lib.hid cK1; have HR0 := Lib.hid cR0; have HR1 := Lib.hid cR1
  clear cK0 cK1 cR0 cR1 hA hB hA2 hsz
  unfold tidV
  go_enter Try.func6, Try.ntmps6
  go_wp2_with fail
  refine (awake_any _).mono ?_
  rintro e x1 ⟨rfl, d1⟩
  have D1 := hw2.trans (d1.mono (by rw [hsz2]; omega))
  have hs1' := d1.size
  rw [hsz2] at hs1'
  have qa := HA.out.below (by rw [hsz2]; omega) d1
  have qb := HB.out.below (by rw [hsz2]; omega) d1
  clear HA HB
  have HA := Lib.hid qa
  have HB := Lib.hid qb
  obtain ⟨c0, c1, c2, c3⟩ := qa
  cases hr0 : rightT e0 s0 with
  | false =>
    have R := HR0.out
    rw [hr0] at R
    unfold tidV at R
    have HR := Lib.hid R
    clear R hr0
    go_wp2_with fail
    refine (HR.out _).mono ?_
    rintro e x2 ⟨rfl, d2⟩
    have D2 := btW D1 d2
    go_wp2_with fail
    refine (awake_any _).mono ?_
    rintro e x3 ⟨rfl, d3⟩
    go_wp2_with fail
    go_ret
    exact ⟨rfl, btW D2 d3⟩
  | true =>
    have R := HR0.out
    have K := HK0.out
    unfold packV at K
    rw [hr0] at R K
    simp only [if_true] at K
    unfold tidV at R K
    have HR := Lib.hid R
    have HK := Lib.hid K
    have HF0 := Lib.hid hr0
    clear R K hr0 HR0 HK0
    go_wp2_with fail
    refine (HR.out _).mono ?_
    rintro e x2 ⟨rfl, d2⟩
    have D2 := btW D1 d2
    have hs2' := d2.size
    have qb := HB.out.below (by omega) d2
    have qa := HA.out.below (by omega) d2
    clear HA HB c0 c1 c2 c3 HR
    have HA := Lib.hid qa
    have HB := Lib.hid qb
    obtain ⟨c0, c1, c2, c3⟩ := qb
    cases hr1 : rightT e1 s1 with
    | false =>
      have R := HR1.out
      rw [hr1] at R
      unfold tidV at R
      have HR := Lib.hid R
      clear R hr1
      go_wp2_with fail
      refine (HR.out _).mono ?_
      rintro e x3 ⟨rfl, d3⟩
      have D3 := btW D2 d3
      go_wp2_with fail
      refine (awake_any _).mono ?_
      rintro e x4 ⟨rfl, d4⟩
      go_wp2_with fail
      go_ret
      exact ⟨rfl, btW D3 d4⟩
    | true =>
      have R := HR1.out
      have K := HK1.out
      unfold packV at K
      rw [hr1] at R K
      simp only [if_true] at K
      unfold tidV at R K
      have HR := Lib.hid R
      have HK1' := Lib.hid K
      have f0 := (pack_facts HF0.out l0 b0).2.2.2.2.2
      have f1 := (pack_facts hr1 l1 b1).2.2.2.2.2
      have S0 := fun W => wordStamp_any (packT e0 s0 l0 b0) W (pack_in HF0.out l0 b0)
      have S1 := fun W => wordStamp_any (packT e1 s1 l1 b1) W (pack_in hr1 l1 b1)
      rw [f0] at S0
      rw [f1] at S1
      obtain ⟨g0, g1, g2, g3⟩ := right_iff.1 HF0.out
      obtain ⟨k0, k1, k2, k3⟩ := right_iff.1 hr1
      generalize packT e0 s0 l0 b0 = p0 at *
      generalize packT e1 s1 l1 b1 = p1 at *
      have HS0 := Lib.hid S0
      have HS1 := Lib.hid S1
      clear R K hr1 HR1 HK1 S0 S1 f0 f1 HF0
      go_wp2_with fail
      refine (HR.out _).mono ?_
      rintro e x3 ⟨rfl, d3⟩
      have D3 := btW D2 d3
      have hs3' := d3.size
      have qb := HB.out.below (by omega) d3
      have qa := HA.out.below (by omega) d3
      clear HA HB c0 c1 c2 c3 HR
      have HA := Lib.hid qa
      have HB := Lib.hid qb
      obtain ⟨c0, c1, c2, c3⟩ := qa
      go_wp2_with fail
      refine (HK.out _).mono ?_
      rintro e x4 ⟨rfl, d4⟩
      have D4 := btW D3 d4
      have hs4' := d4.size
      have qb := HB.out.below (by omega) d4
      have qa := HA.out.below (by omega) d4
      clear HA HB c0 c1 c2 c3 HK
      have HA := Lib.hid qa
      have HB := Lib.hid qb
      obtain ⟨c0, c1, c2, c3⟩ := qb
      go_wp2_with fail
      refine (HK1'.out _).mono ?_
      rintro e x5 ⟨rfl, d5⟩
      have D5 := btW D4 d5
      have hs5' := d5.size
      have qb := HB.out.below (by omega) d5
      have qa := HA.out.below (by omega) d5
      clear HA HB c0 c1 c2 c3 HK1'
      obtain ⟨c0, c1, c2, c3⟩ := qb
      obtain ⟨y0, y1, y2, y3⟩ := qa
      have hsp : (e0 < e1) ∨ (e1 < e0) ∨ (e0 = e1 ∧ s0 < s1) ∨ (e0 = e1 ∧ ¬ s0 < s1) := by omega
      rcases hsp with h | h | ⟨h, h2⟩ | ⟨h, h2⟩
      · have hd : decide (e0 * 2147483648 + s0 < e1 * 2147483648 + s1) = true := decide_eq_true (by omega)
        go_wp2_with fail
        refine (HS0.out _).mono ?_
        rintro e x6 ⟨rfl, d6⟩
        go_wp2_with fail
        refine (HS1.out _).mono ?_
        rintro e x7 ⟨rfl, d7⟩
        go_wp2_with fail
        go_ret
        exact ⟨rfl, btW (btW D5 d6) d7⟩
      · have hd : decide (e0 * 2147483648 + s0 < e1 * 2147483648 + s1) = false := decide_eq_false (by omega)
        have hn : ¬ e0 < e1 := by omega
        have hde : decide (e0 < e1) = false := decide_eq_false (by omega)
        have hne : (e0 == e1) = false := by rw [beq_eq_false_iff_ne]; omega
        go_wp2_with fail
        refine (HS0.out _).mono ?_
        rintro e x6 ⟨rfl, d6⟩
        go_wp2_with fail
        refine (HS1.out _).mono ?_
        rintro e x7 ⟨rfl, d7⟩
        go_wp2_with fail
        go_ret
        exact ⟨rfl, btW (btW D5 d6) d7⟩
      · subst h
        have hd : decide (e0 * 2147483648 + s0 < e0 * 2147483648 + s1) = true := decide_eq_true (by omega)
        go_wp2_with fail
        refine (HS0.out _).mono ?_
        rintro e x6 ⟨rfl, d6⟩
        go_wp2_with fail
        refine (HS1.out _).mono ?_
        rintro e x7 ⟨rfl, d7⟩
        go_wp2_with fail
        go_ret
        exact ⟨rfl, btW (btW D5 d6) d7⟩
      · subst h
        have hd : decide (e0 * 2147483648 + s0 < e0 * 2147483648 + s1) = false := decide_eq_false (by omega)
        go_wp2_with fail
        refine (HS0.out _).mono ?_
        rintro e x6 ⟨rfl, d6⟩
        go_wp2_with fail
        refine (HS1.out _).mono ?_
        rintro e x7 ⟨rfl, d7⟩
        go_wp2_with fail
        go_ret
        exact ⟨rfl, btW (btW D5 d6) d7⟩

set_option maxRecDepth 100000 in
theorem lifted (os : Os) (started : os.Started) (H : Type) (enc : TypeId × Value → H) :
    ReturnsInHanded {} Try.checked os 6 .any (Rows.wordOrdersSpec.pre6 enc Try.prog Try.f6 Rows.wordOrdersRow.domain false) (Rows.wordOrdersSpec.post enc Try.prog Try.f6 false true false false) := by
  refine returnsInHanded_of_change (C := Try.checked) own started (by kernel_rfl) Try.func6
    (ChangeSpec.witness6 (enc := enc) (C := Try.checked) false ⟨#[], #[.agg #[.int .i64 0, .int .i64 0, .bool false, .bool false], .agg #[.int .i64 0, .int .i64 0, .bool false, .bool false]], []⟩ 8 (by kernel_rfl) (by kernel_rfl) (by kernel_rfl) (by kernel_rfl)) ?_
  intro W base args ds gs before hval0 hW hcnd _
  have hval : ∀ (j : Nat) t v, Try.f6.params[j]? = some t → args[j]? = some v → Value.okWide Try.prog W .any base t v := hval0
  have hW' := hW
  obtain ⟨p, q, hA0, hV, rfl, hfz, hnd⟩ := hW
  have hA : DataW.TrodAll enc Try.prog W 0 (fun _ => true) true Try.f6.params.toList args.toList ds p := hA0
  rw [Try.params6] at hA hval
  obtain ⟨v0, vs0, d0, ds0, p0, q0, hargs, rfl, rfl, h0, r0⟩ := trodAll_cons hA
  obtain ⟨v1, vs1, d1, ds1, p1, q1, rfl, rfl, rfl, h1, r1⟩ := trodAll_cons r0
  obtain ⟨rfl, rfl, rfl⟩ := trodAll_nil r1
  obtain rfl : args = #[v0, v1] := by cases args; simp_all
  obtain ⟨rfl, rfl⟩ := trodVars_none hV
  have tv0 := h0
  obtain ⟨e0, s0, l0, b0, rfl, rfl, w0⟩ := open_tid (hval 0 23 v0 rfl rfl) h0
  have tv1 := h1
  obtain ⟨e1, s1, l1, b1, rfl, rfl, w1⟩ := open_tid (hval 1 23 v1 rfl rfl) h1
  clear hA0 hval0
  refine (walk e0 s0 l0 b0 e1 s1 l1 b1 w0 w1 W ).mono fun e W' ⟨he, bel⟩ => ?_
  subst he
  exact ⟨_, rfl, _, _, _, [], _, [], hW', trodAll_mk1 (shut_bool Try.underlying4 _), (trodAll_cons_mk (Below.trod laidOut (by kernel_rfl) (of_decide_eq_true (by kernel_rfl)) tv0 bel (fun _ hx => by cases hx)) (trodAll_cons_mk (Below.trod laidOut (by kernel_rfl) (of_decide_eq_true (by kernel_rfl)) tv1 bel (fun _ hx => by cases hx)) trodAll_mk0)), rfl, bel.frame _, fun h => by cases h⟩

theorem over : Rows.wordOrdersRow.holds Try.pinned (OpenSpec.ofChange Rows.wordOrdersSpec) :=
  OpenClaim.holds_of_wide 6 Try.f6 rfl rfl rfl rfl rfl rfl rfl ⟨rfl, rfl, rfl, rfl, rfl⟩ rfl rfl rfl rfl rfl (by kernel_rfl) Try.func6 (by kernel_rfl)
    (of_decide_eq_true (by kernel_rfl)) (by unfold Func.isWrapper; first | (rw [if_pos (by decide +kernel)]; kernel_rfl) | (rw [if_neg (by decide +kernel)]; exact ⟨rfl, rfl⟩))
    (fun os started H enc _ => lifted os started H enc)
theorem proved : Rows.WordOrdersSaid := over
end Go.Proofs.Ytphbckddcckgdaa.wordOrders
