/- Words and their parts are the document's, of any Tid and any word (P4.1, P4.4). -/
import Derived.Test.YtphbckddcckgdaaOpenN
import Derived.Test.YtphbckddcckgdaaWordLaws
namespace Go.Proofs.Ytphbckddcckgdaa.wordPacks
open Go.ChangeShapes Go.WideShapes Go.ChangeAt Go.RowKit
open Go.ChangeMaps (open_string shut_string)
set_option linter.unusedVariables false

set_option maxHeartbeats 40000000 in
set_option maxRecDepth 100000 in
theorem walk (e0 s0 : Int) (l0 b0 : Bool) (a1 : Int) (w0 : TidIn e0 s0) (w1 : (Lit.int .u64 a1).wf = true) (w : World)  :
    Calls Try.prog 3 #[tidV e0 s0 l0 b0, .int .u64 a1] w fun e w' => e = .returned (.bool true) ∧ Below w.heap.size w w' := by
  have hx := wf_u64 w1
  obtain ⟨he, hs⟩ := w0
  clear w1
  obtain ⟨p0, p1, p2, p3, p4⟩ := parts_in hx
  have cP := fun W => refParts_any a1 W hx
  have cW := fun W => wordParts_any a1 W hx
  have cS := fun W => wordStamp_any a1 W hx
  have cK := fun W => wordPack_any e0 s0 l0 b0 W he hs
  have cR := fun W => refRightT_any e0 s0 l0 b0 W
  have e1 : IntKind.u64.wrap (epochW a1 * 2147483648) = epochW a1 * 2147483648 := wraps_u64 _ (by omega) (by omega)
  have e2 : IntKind.u64.wrap (epochW a1 * 2147483648 + seqW a1) = epochW a1 * 2147483648 + seqW a1 := wraps_u64 _ (by omega) (by omega)
  have e3 : IntKind.i64.wrap (epochW a1) = epochW a1 := IntWalk.i64_in _ (by omega)
  have e4 : IntKind.i64.wrap (seqW a1) = seqW a1 := IntWalk.i64_in _ (by omega)
  rw [p4] at cS
  unfold partsV at cW
  unfold packV at cK
  have HP := Lib.hid cP; have HS := Lib.hid cS; have HR := Lib.hid cR; have HW := Lib.hid cW; have HK := Lib.hid cK
  have HB := Lib.hid (BoxT.new w e0 s0 l0 b0)
  have hb0 : Below w.heap.size w (w.alloc (.cells #[.int .i64 e0, .int .i64 s0, .bool l0, .bool b0] 23)) := (Below.refl _ _).alloc (Nat.le_refl _) _
  clear cP cW cS cK cR p4
  unfold tidV
  go_enter Try.func3, Try.ntmps3
  go_wp2_with fail
  refine (awake_any _).mono ?_
  rintro e x1 ⟨rfl, b1⟩
  go_wp2_with fail
  refine (HP.out _).mono ?_
  rintro e x2 ⟨rfl, rfl⟩
  cases hok : okW a1 with
  | false =>
    have W1 := HW.out
    rw [hok] at W1
    simp only [Bool.false_eq_true, if_false] at W1
    have HW1 := Lib.hid W1
    have hq : ¬ seqW a1 ≤ 1073741823 := by unfold okW at hok; simpa using hok
    clear W1 hok HW
    go_wp2_with fail
    unfold tidV at HW1
    refine (HW1.out _).mono ?_
    rintro e x3 ⟨rfl, b3⟩
    go_wp2_with fail
    refine (HS.out _).mono ?_
    rintro e x4 ⟨rfl, b4⟩
    have hsz : (w.alloc (.cells #[.int .i64 e0, .int .i64 s0, .bool l0, .bool b0] 23)).heap.size = w.heap.size + 1 := by simp
    have D4 := btW b1 ((b3.alloc b3.size _).trans (b4.mono (by have := b3.size; simp; omega)))
    have q4 := HB.out.below (by rw [hsz]; omega) D4
    obtain ⟨c0, c1, c2, c3⟩ := q4
    have B4 := hb0.trans (D4.mono (by rw [hsz]; omega))
    cases hrt : rightT e0 s0 with
    | false =>
      have K1 := HK.out
      have R1 := HR.out
      rw [hrt] at K1 R1
      simp only [Bool.false_eq_true, if_false] at K1
      unfold tidV at K1 R1
      have HK1 := Lib.hid K1
      have HR1 := Lib.hid R1
      clear K1 R1 hrt
      go_wp2_with fail
      refine (HK1.out _).mono ?_
      rintro e x5 ⟨rfl, b5⟩
      have q5 := BoxT.below ⟨c0, c1, c2, c3⟩ (by have := D4.size; rw [hsz] at this; omega) b5
      clear c0 c1 c2 c3
      obtain ⟨c0, c1, c2, c3⟩ := q5
      go_wp2_with fail
      refine (HR1.out _).mono ?_
      rintro e x6 ⟨rfl, b6⟩
      go_wp2_with fail
      go_ret
      exact ⟨rfl, btW (btW B4 b5) b6⟩
    | true =>
      have K1 := HK.out
      have R1 := HR.out
      rw [hrt] at K1 R1
      simp only [if_true] at K1
      unfold tidV at K1 R1
      have hpi := pack_in hrt l0 b0
      obtain ⟨t1, t2, t3, t4, t5, t6⟩ := pack_facts hrt l0 b0
      have cQ := fun W => wordParts_any (packT e0 s0 l0 b0) W hpi
      have cT := fun W => refPackT_any e0 s0 l0 b0 W hrt
      unfold partsV at cQ
      rw [t1, t2, t3, t4, t5] at cQ
      simp only [if_true] at cQ
      unfold tidV at cQ cT
      generalize packT e0 s0 l0 b0 = pk at *
      have HQ := Lib.hid cQ
      have HT := Lib.hid cT
      have HK1 := Lib.hid K1
      have HR1 := Lib.hid R1
      clear K1 R1 hrt t1 t2 t3 t4 t5 t6 cQ cT hpi
      go_wp2_with fail
      refine (HK1.out _).mono ?_
      rintro e x5 ⟨rfl, b5⟩
      have q5 := BoxT.below ⟨c0, c1, c2, c3⟩ (by have := D4.size; rw [hsz] at this; omega) b5
      clear c0 c1 c2 c3
      obtain ⟨c0, c1, c2, c3⟩ := q5
      have B5 := btW B4 b5
      go_wp2_with fail
      refine (HR1.out _).mono ?_
      rintro e x6 ⟨rfl, b6⟩
      have q6 := BoxT.below ⟨c0, c1, c2, c3⟩ (by have := D4.size; have := b5.size; rw [hsz] at *; omega) b6
      clear c0 c1 c2 c3
      obtain ⟨c0, c1, c2, c3⟩ := q6
      have B6 := btW B5 b6
      go_wp2_with fail
      refine (HQ.out _).mono ?_
      rintro e x7 ⟨rfl, b7⟩
      have B7 := btW B6 b7
      have q7 := BoxT.below ⟨c0, c1, c2, c3⟩ (by have := D4.size; have := b5.size; have := b6.size; rw [hsz] at *; omega) b7
      have B8 := B7.alloc B7.size (.cells #[.int .i64 e0, .int .i64 s0, .bool l0, .bool b0] 23)
      have q8 := q7.below (B := x7.heap.size) (by have := D4.size; have := b5.size; have := b6.size; have := b7.size; rw [hsz] at *; omega) ((Below.refl x7.heap.size x7).alloc (Nat.le_refl _) (.cells #[.int .i64 e0, .int .i64 s0, .bool l0, .bool b0] 23))
      have z8 := BoxT.new x7 e0 s0 l0 b0
      clear c0 c1 c2 c3 q7
      obtain ⟨c0, c1, c2, c3⟩ := q8
      obtain ⟨d0, d1, d2, d3⟩ := z8
      go_wp2_with fail
      refine (HT.out _).mono ?_
      rintro e x8 ⟨rfl, b8⟩
      have hlt8 : w.heap.size < x7.heap.size := by have := D4.size; have := b5.size; have := b6.size; have := b7.size; rw [hsz] at *; omega
      have q9 := BoxT.below ⟨c0, c1, c2, c3⟩ (by simp; omega) b8
      have z9 := BoxT.below ⟨d0, d1, d2, d3⟩ (by simp) b8
      clear c0 c1 c2 c3 d0 d1 d2 d3
      obtain ⟨c0, c1, c2, c3⟩ := q9
      obtain ⟨d0, d1, d2, d3⟩ := z9
      go_wp2_with fail
      go_ret
      exact ⟨rfl, btW B8 b8⟩
  | true =>
    have W1 := HW.out
    rw [hok] at W1
    simp only [if_true] at W1
    have HW1 := Lib.hid W1
    have hq : seqW a1 ≤ 1073741823 := by unfold okW at hok; simpa using hok
    clear W1 hok HW
    go_wp2_with fail
    unfold tidV at HW1
    refine (HW1.out _).mono ?_
    rintro e x3 ⟨rfl, b3⟩
    go_wp2_with fail
    refine (HS.out _).mono ?_
    rintro e x4 ⟨rfl, b4⟩
    have hsz : (w.alloc (.cells #[.int .i64 e0, .int .i64 s0, .bool l0, .bool b0] 23)).heap.size = w.heap.size + 1 := by simp
    have D4 := btW b1 ((b3.alloc b3.size _).trans (b4.mono (by have := b3.size; simp; omega)))
    have q4 := HB.out.below (by rw [hsz]; omega) D4
    obtain ⟨c0, c1, c2, c3⟩ := q4
    have B4 := hb0.trans (D4.mono (by rw [hsz]; omega))
    cases hrt : rightT e0 s0 with
    | false =>
      have K1 := HK.out
      have R1 := HR.out
      rw [hrt] at K1 R1
      simp only [Bool.false_eq_true, if_false] at K1
      unfold tidV at K1 R1
      have HK1 := Lib.hid K1
      have HR1 := Lib.hid R1
      clear K1 R1 hrt
      go_wp2_with fail
      refine (HK1.out _).mono ?_
      rintro e x5 ⟨rfl, b5⟩
      have q5 := BoxT.below ⟨c0, c1, c2, c3⟩ (by have := D4.size; rw [hsz] at this; omega) b5
      clear c0 c1 c2 c3
      obtain ⟨c0, c1, c2, c3⟩ := q5
      go_wp2_with fail
      refine (HR1.out _).mono ?_
      rintro e x6 ⟨rfl, b6⟩
      go_wp2_with fail
      go_ret
      exact ⟨rfl, btW (btW B4 b5) b6⟩
    | true =>
      have K1 := HK.out
      have R1 := HR.out
      rw [hrt] at K1 R1
      simp only [if_true] at K1
      unfold tidV at K1 R1
      have hpi := pack_in hrt l0 b0
      obtain ⟨t1, t2, t3, t4, t5, t6⟩ := pack_facts hrt l0 b0
      have cQ := fun W => wordParts_any (packT e0 s0 l0 b0) W hpi
      have cT := fun W => refPackT_any e0 s0 l0 b0 W hrt
      unfold partsV at cQ
      rw [t1, t2, t3, t4, t5] at cQ
      simp only [if_true] at cQ
      unfold tidV at cQ cT
      generalize packT e0 s0 l0 b0 = pk at *
      have HQ := Lib.hid cQ
      have HT := Lib.hid cT
      have HK1 := Lib.hid K1
      have HR1 := Lib.hid R1
      clear K1 R1 hrt t1 t2 t3 t4 t5 t6 cQ cT hpi
      go_wp2_with fail
      refine (HK1.out _).mono ?_
      rintro e x5 ⟨rfl, b5⟩
      have q5 := BoxT.below ⟨c0, c1, c2, c3⟩ (by have := D4.size; rw [hsz] at this; omega) b5
      clear c0 c1 c2 c3
      obtain ⟨c0, c1, c2, c3⟩ := q5
      have B5 := btW B4 b5
      go_wp2_with fail
      refine (HR1.out _).mono ?_
      rintro e x6 ⟨rfl, b6⟩
      have q6 := BoxT.below ⟨c0, c1, c2, c3⟩ (by have := D4.size; have := b5.size; rw [hsz] at *; omega) b6
      clear c0 c1 c2 c3
      obtain ⟨c0, c1, c2, c3⟩ := q6
      have B6 := btW B5 b6
      go_wp2_with fail
      refine (HQ.out _).mono ?_
      rintro e x7 ⟨rfl, b7⟩
      have B7 := btW B6 b7
      have q7 := BoxT.below ⟨c0, c1, c2, c3⟩ (by have := D4.size; have := b5.size; have := b6.size; rw [hsz] at *; omega) b7
      have B8 := B7.alloc B7.size (.cells #[.int .i64 e0, .int .i64 s0, .bool l0, .bool b0] 23)
      have q8 := q7.below (B := x7.heap.size) (by have := D4.size; have := b5.size; have := b6.size; have := b7.size; rw [hsz] at *; omega) ((Below.refl x7.heap.size x7).alloc (Nat.le_refl _) (.cells #[.int .i64 e0, .int .i64 s0, .bool l0, .bool b0] 23))
      have z8 := BoxT.new x7 e0 s0 l0 b0
      clear c0 c1 c2 c3 q7
      obtain ⟨c0, c1, c2, c3⟩ := q8
      obtain ⟨d0, d1, d2, d3⟩ := z8
      go_wp2_with fail
      refine (HT.out _).mono ?_
      rintro e x8 ⟨rfl, b8⟩
      have hlt8 : w.heap.size < x7.heap.size := by have := D4.size; have := b5.size; have := b6.size; have := b7.size; rw [hsz] at *; omega
      have q9 := BoxT.below ⟨c0, c1, c2, c3⟩ (by simp; omega) b8
      have z9 := BoxT.below ⟨d0, d1, d2, d3⟩ (by simp) b8
      clear c0 c1 c2 c3 d0 d1 d2 d3
      obtain ⟨c0, c1, c2, c3⟩ := q9
      obtain ⟨d0, d1, d2, d3⟩ := z9
      go_wp2_with fail
      go_ret
      exact ⟨rfl, btW B8 b8⟩

set_option maxRecDepth 100000 in
theorem lifted (os : Os) (started : os.Started) (H : Type) (enc : TypeId × Value → H) :
    ReturnsInHanded {} Try.checked os 3 .any (Rows.wordPacksSpec.pre6 enc Try.prog Try.f3 Rows.wordPacksRow.domain false) (Rows.wordPacksSpec.post enc Try.prog Try.f3 false true false false) := by
  refine returnsInHanded_of_change (C := Try.checked) own started (by kernel_rfl) Try.func3
    (ChangeSpec.witness6 (enc := enc) (C := Try.checked) false ⟨#[], #[.agg #[.int .i64 0, .int .i64 0, .bool false, .bool false], .int .u64 0], []⟩ 8 (by kernel_rfl) (by kernel_rfl) (by kernel_rfl) (by kernel_rfl)) ?_
  intro W base args ds gs before hval0 hW hcnd _
  have hval : ∀ (j : Nat) t v, Try.f3.params[j]? = some t → args[j]? = some v → Value.okWide Try.prog W .any base t v := hval0
  have hW' := hW
  obtain ⟨p, q, hA0, hV, rfl, hfz, hnd⟩ := hW
  have hA : DataW.TrodAll enc Try.prog W 0 (fun _ => true) true Try.f3.params.toList args.toList ds p := hA0
  rw [Try.params3] at hA hval
  obtain ⟨v0, vs0, d0, ds0, p0, q0, hargs, rfl, rfl, h0, r0⟩ := trodAll_cons hA
  obtain ⟨v1, vs1, d1, ds1, p1, q1, rfl, rfl, rfl, h1, r1⟩ := trodAll_cons r0
  obtain ⟨rfl, rfl, rfl⟩ := trodAll_nil r1
  obtain rfl : args = #[v0, v1] := by cases args; simp_all
  obtain ⟨rfl, rfl⟩ := trodVars_none hV
  have tv0 := h0
  obtain ⟨e0, s0, l0, b0, rfl, rfl, w0⟩ := open_tid (hval 0 23 v0 rfl rfl) h0
  obtain ⟨a1, rfl, rfl, rfl, w1⟩ := open_int Try.underlying24 (hval 1 24 v1 rfl rfl) h1
  clear hA0 hval0
  refine (walk e0 s0 l0 b0 a1 w0 w1 W ).mono fun e W' ⟨he, bel⟩ => ?_
  subst he
  exact ⟨_, rfl, _, _, _, [], _, [], hW', trodAll_mk1 (shut_bool Try.underlying4 _), (trodAll_cons_mk (Below.trod laidOut (by kernel_rfl) (of_decide_eq_true (by kernel_rfl)) tv0 bel (fun _ hx => by cases hx)) (trodAll_cons_mk (shut_int Try.underlying24 w1) trodAll_mk0)), rfl, bel.frame _, fun h => by cases h⟩

theorem over : Rows.wordPacksRow.holds Try.pinned (OpenSpec.ofChange Rows.wordPacksSpec) :=
  OpenClaim.holds_of_wide 3 Try.f3 rfl rfl rfl rfl rfl rfl rfl ⟨rfl, rfl, rfl, rfl, rfl⟩ rfl rfl rfl rfl rfl (by kernel_rfl) Try.func3 (by kernel_rfl)
    (of_decide_eq_true (by kernel_rfl)) (by unfold Func.isWrapper; first | (rw [if_pos (by decide +kernel)]; kernel_rfl) | (rw [if_neg (by decide +kernel)]; exact ⟨rfl, rfl⟩))
    (fun os started H enc _ => lifted os started H enc)
theorem proved : Rows.WordPacksSaid := over
end Go.Proofs.Ytphbckddcckgdaa.wordPacks
