/- Locks and absences are the document's, of any word, and leave its stamp (P4.2). -/
import Derived.Test.YtphbckddcckgdaaOpenN
import Derived.Test.YtphbckddcckgdaaWordLaws
namespace Go.Proofs.Ytphbckddcckgdaa.wordLocks
open Go.ChangeShapes Go.WideShapes Go.ChangeAt Go.RowKit
open Go.ChangeMaps (open_string shut_string)
set_option linter.unusedVariables false

set_option maxHeartbeats 40000000 in
set_option maxRecDepth 100000 in
theorem walk (a0 : Int) (a1 : Bool) (w0 : (Lit.int .u64 a0).wf = true) (w1 : True) (w : World)  :
    Calls Try.prog 4 #[.int .u64 a0, .bool a1] w fun e w' => e = .returned (.bool true) ∧ Below w.heap.size w w' := by
  have hx := wf_u64 w0
  clear w0 w1
  obtain ⟨f1, f2, f3⟩ := lockTo_facts hx
  obtain ⟨g1, g2, g3⟩ := unlock_facts hx
  obtain ⟨k1, k2, k3⟩ := absent_facts hx a1
  have cP := fun W => refParts_any a0 W hx
  have cX := fun W => refParts_any (lockTo a0) W (lockTo_in hx)
  have cY := fun W => refParts_any (unlockedW a0) W (unlock_in hx)
  have cZ := fun W => refParts_any (absentW a0 a1) W (absent_in hx a1)
  have cL := fun W => wordLock_any a0 W hx
  have cU := fun W => wordUnlock_any a0 W hx
  have cA := fun W => wordAbsent_any a0 a1 W hx
  have s0 := fun W => wordStamp_any a0 W hx
  have s1 := fun W => wordStamp_any (lockTo a0) W (lockTo_in hx)
  have s2 := fun W => wordStamp_any (unlockedW a0) W (unlock_in hx)
  have s3 := fun W => wordStamp_any (absentW a0 a1) W (absent_in hx a1)
  have cL2 : ∀ W, Calls Try.prog 16 #[.int .u64 a0] W fun r w' => r = .returned (.tuple #[.int .u64 (lockTo a0), .bool (!lockW a0)]) ∧ Below W.heap.size W w' := cL
  rw [f1, f2] at cX
  rw [g1, g2] at cY
  rw [k1, k2] at cZ
  rw [f3] at s1
  rw [g3] at s2
  rw [k3] at s3
  generalize lockTo a0 = x at *
  generalize unlockedW a0 = y at *
  generalize absentW a0 a1 = z at *
  generalize lockW a0 = lk at *
  generalize absW a0 = ab at *
  generalize stampW a0 = st at *
  have CP := Lib.hid cP; have CX := Lib.hid cX; have CY := Lib.hid cY; have CZ := Lib.hid cZ
  have CL := Lib.hid cL2; have CU := Lib.hid cU; have CA := Lib.hid cA
  have S0 := Lib.hid s0; have S1 := Lib.hid s1; have S2 := Lib.hid s2; have S3 := Lib.hid s3
  clear cP cX cY cZ cL cL2 cU cA s0 s1 s2 s3 f1 f2 f3 g1 g2 g3 k1 k2 k3
  have hll : (!lk == !lk) = true := by simp
  have hab : (ab == ab) = true := by simp
  have hlk : (lk == lk) = true := by simp
  have h11 : (a1 == a1) = true := by simp
  have hst : (st == st) = true := by simp
  go_enter Try.func4, Try.ntmps4
  go_wp2_with fail
  refine (awake_any _).mono ?_
  rintro e x1 ⟨rfl, b1⟩
  go_wp2_with fail
  refine (CP.out _).mono ?_
  rintro e x2 ⟨rfl, rfl⟩
  go_wp2_with fail
  refine (CL.out _).mono ?_
  rintro e x3 ⟨rfl, b3⟩
  go_wp2_with fail
  refine (CU.out _).mono ?_
  rintro e x4 ⟨rfl, b4⟩
  go_wp2_with fail
  refine (CA.out _).mono ?_
  rintro e x5 ⟨rfl, b5⟩
  go_wp2_with fail
  refine (CX.out _).mono ?_
  rintro e x6 ⟨rfl, rfl⟩
  go_wp2_with fail
  refine (CY.out _).mono ?_
  rintro e x7 ⟨rfl, rfl⟩
  go_wp2_with fail
  refine (CZ.out _).mono ?_
  rintro e x8 ⟨rfl, rfl⟩
  have B5 := btW (btW (btW b1 b3) b4) b5
  go_wp2_with fail
  refine (S1.out _).mono ?_
  rintro e y0 ⟨rfl, d0⟩
  have D0 := btW B5 d0
  go_wp2_with fail
  refine (S0.out _).mono ?_
  rintro e y1 ⟨rfl, d1⟩
  have D1 := btW D0 d1
  go_wp2_with fail
  refine (S2.out _).mono ?_
  rintro e y2 ⟨rfl, d2⟩
  have D2 := btW D1 d2
  go_wp2_with fail
  refine (S0.out _).mono ?_
  rintro e y3 ⟨rfl, d3⟩
  have D3 := btW D2 d3
  go_wp2_with fail
  refine (S3.out _).mono ?_
  rintro e y4 ⟨rfl, d4⟩
  have D4 := btW D3 d4
  go_wp2_with fail
  refine (S0.out _).mono ?_
  rintro e y5 ⟨rfl, d5⟩
  have D5 := btW D4 d5
  go_wp2_with fail
  go_ret
  exact ⟨rfl, D5⟩

set_option maxRecDepth 100000 in
theorem lifted (os : Os) (started : os.Started) (H : Type) (enc : TypeId × Value → H) :
    ReturnsInHanded {} Try.checked os 4 .any (Rows.wordLocksSpec.pre6 enc Try.prog Try.f4 Rows.wordLocksRow.domain false) (Rows.wordLocksSpec.post enc Try.prog Try.f4 false true false false) := by
  refine returnsInHanded_of_change (C := Try.checked) own started (by kernel_rfl) Try.func4
    (ChangeSpec.witness6 (enc := enc) (C := Try.checked) false ⟨#[], #[.int .u64 0, .bool false], []⟩ 8 (by kernel_rfl) (by kernel_rfl) (by kernel_rfl) (by kernel_rfl)) ?_
  intro W base args ds gs before hval0 hW hcnd _
  have hval : ∀ (j : Nat) t v, Try.f4.params[j]? = some t → args[j]? = some v → Value.okWide Try.prog W .any base t v := hval0
  have hW' := hW
  obtain ⟨p, q, hA0, hV, rfl, hfz, hnd⟩ := hW
  have hA : DataW.TrodAll enc Try.prog W 0 (fun _ => true) true Try.f4.params.toList args.toList ds p := hA0
  rw [Try.params4] at hA hval
  obtain ⟨v0, vs0, d0, ds0, p0, q0, hargs, rfl, rfl, h0, r0⟩ := trodAll_cons hA
  obtain ⟨v1, vs1, d1, ds1, p1, q1, rfl, rfl, rfl, h1, r1⟩ := trodAll_cons r0
  obtain ⟨rfl, rfl, rfl⟩ := trodAll_nil r1
  obtain rfl : args = #[v0, v1] := by cases args; simp_all
  obtain ⟨rfl, rfl⟩ := trodVars_none hV
  obtain ⟨a0, rfl, rfl, rfl, w0⟩ := open_int Try.underlying24 (hval 0 24 v0 rfl rfl) h0
  obtain ⟨a1, rfl, rfl, rfl⟩ := open_boolN Try.underlying4 (hval 1 4 v1 rfl rfl) h1
  have w1 := True.intro
  clear hA0 hval0
  refine (walk a0 a1 w0 w1 W ).mono fun e W' ⟨he, bel⟩ => ?_
  subst he
  exact ⟨_, rfl, _, _, _, [], _, [], hW', trodAll_mk1 (shut_bool Try.underlying4 _), (trodAll_cons_mk (shut_int Try.underlying24 w0) (trodAll_cons_mk (shut_bool Try.underlying4 _) trodAll_mk0)), rfl, bel.frame _, fun h => by cases h⟩

theorem over : Rows.wordLocksRow.holds Try.pinned (OpenSpec.ofChange Rows.wordLocksSpec) :=
  OpenClaim.holds_of_wide 4 Try.f4 rfl rfl rfl rfl rfl rfl rfl ⟨rfl, rfl, rfl, rfl, rfl⟩ rfl rfl rfl rfl rfl (by kernel_rfl) Try.func4 (by kernel_rfl)
    (of_decide_eq_true (by kernel_rfl)) (by unfold Func.isWrapper; first | (rw [if_pos (by decide +kernel)]; kernel_rfl) | (rw [if_neg (by decide +kernel)]; exact ⟨rfl, rfl⟩))
    (fun os started H enc _ => lifted os started H enc)
theorem proved : Rows.WordLocksSaid := over
end Go.Proofs.Ytphbckddcckgdaa.wordLocks
