/- The document's own answers for words: Right, Pack, Parts, Next, as numbers. -/
import Derived.Test.YtphbckddcckgdaaWordBits
import Derived.Test.YtphbckddcckgdaaNum
import Derived.WalkKit
import Derived.Below
import Derived.Lib.Hide
import Derived.WalkSmall
set_option linter.unusedVariables false
namespace Go.Proofs.Ytphbckddcckgdaa
open Go Go.RowKit

def stampW (x : Int) : Int := x % 4611686018427387904
def lockW (x : Int) : Bool := x / 9223372036854775808 == 1
def absW (x : Int) : Bool := x / 4611686018427387904 % 2 == 1
def epochW (x : Int) : Int := x % 4611686018427387904 / 2147483648
def seqW (x : Int) : Int := x % 4611686018427387904 % 2147483648
def rightT (e s : Int) : Bool := decide (0 ≤ e ∧ e ≤ 2147483647 ∧ 0 ≤ s ∧ s ≤ 1073741823)
def packT (e s : Int) (l a : Bool) : Int := e * 2147483648 + s + (if a then 4611686018427387904 else 0) + (if l then 9223372036854775808 else 0)
def tidV (e s : Int) (l a : Bool) : Value := .agg #[.int .i64 e, .int .i64 s, .bool l, .bool a]
/-- The stamp, the error. -/
def nextW (x e : Int) : Int × Int :=
  if e < 0 ∨ 2147483647 < e then (0, 2)
  else if e < epochW x then (0, 40)
  else if epochW x < e then (e * 2147483648 + 1, 0)
  else if 1073741823 ≤ seqW x then (0, 40)
  else (e * 2147483648 + seqW x + 1, 0)
theorem ret_boolW {a b : Bool} (h : a = b) : Ending.returned (.bool a) = .returned (.bool b) := by rw [h]
theorem right_iff {e s : Int} : rightT e s = true ↔ (0 ≤ e ∧ e ≤ 2147483647 ∧ 0 ≤ s ∧ s ≤ 1073741823) := by unfold rightT; rw [decide_eq_true_iff]

set_option maxHeartbeats 2000000 in
set_option maxRecDepth 100000 in
theorem refParts_any (x : Int) (w : World) (h : U64 x) :
    Calls Try.prog 10 #[.int .u64 x] w fun e w' => e = .returned (.tuple #[.bool (lockW x), .bool (absW x), .int .u64 (epochW x), .int .u64 (seqW x)]) ∧ w = w' := by
  obtain ⟨h0, h1⟩ := h
  unfold lockW absW epochW seqW
  go_enter Try.func10, Try.ntmps10
  go_wp2_with fail
  exact bodyPost_ret (v := .tuple #[.bool (x / 9223372036854775808 == 1), .bool (x / 4611686018427387904 % 2 == 1), .int .u64 (x % 4611686018427387904 / 2147483648), .int .u64 (x % 4611686018427387904 % 2147483648)]) (by simp [results, Try.results10, go_sem]) rfl ⟨rfl, rfl⟩
set_option maxHeartbeats 2000000 in
set_option maxRecDepth 100000 in
theorem refRightT_any (e s : Int) (l a : Bool) (w : World) :
    Calls Try.prog 14 #[tidV e s l a] w fun r w' => r = .returned (.bool (rightT e s)) ∧ Below w.heap.size w w' := by
  unfold tidV
  have hb : Below w.heap.size w (w.alloc (.cells #[.int .i64 e, .int .i64 s, .bool l, .bool a] 23)) := (Below.refl _ _).alloc (Nat.le_refl _) _
  go_enter Try.func14, Try.ntmps14
  go_wp2_with fail
  all_goals
    go_ret
    refine ⟨ret_boolW ?_, hb⟩
    unfold rightT
    first
    | (symm; rw [decide_eq_false_iff_not]; omega)
    | (symm; rw [decide_eq_true_iff]; omega)
    | (rw [decide_eq_decide]; omega)
set_option maxHeartbeats 2000000 in
set_option maxRecDepth 100000 in
theorem refPackT_any (e s : Int) (l a : Bool) (w : World) (h : rightT e s = true) :
    Calls Try.prog 15 #[tidV e s l a] w fun r w' => r = .returned (.int .u64 (packT e s l a)) ∧ Below w.heap.size w w' := by
  unfold tidV
  have hr := right_iff.1 h
  clear h
  obtain ⟨h0, h1, h2, h3⟩ := hr
  have hb : Below w.heap.size w (w.alloc (.cells #[.int .i64 e, .int .i64 s, .bool l, .bool a] 23)) := (Below.refl _ _).alloc (Nat.le_refl _) _
  have e1 : IntKind.u64.wrap e = e := wraps_u64 _ h0 (by omega)
  have e2 : IntKind.u64.wrap s = s := wraps_u64 _ h2 (by omega)
  cases l <;> cases a
  all_goals
    go_enter Try.func15, Try.ntmps15
    go_wp2_with fail
    go_ret
    refine ⟨?_, hb⟩
    unfold packT
    simp only [Bool.false_eq_true, if_false, if_true, Int.add_zero]
    rfl
set_option maxHeartbeats 4000000 in
set_option maxRecDepth 100000 in
theorem refNext_any (x e : Int) (w : World) (h : U64 x) (he : I64 e) :
    Calls Try.prog 20 #[.int .u64 x, .int .i64 e] w fun r w' => r = .returned (.tuple #[.int .u64 (nextW x e).1, .int .i64 (nextW x e).2]) ∧ Below w.heap.size w w' := by
  have hx0 : 0 ≤ epochW x := by unfold epochW; have := h.1; omega
  have hx1 : epochW x ≤ 2147483647 := by unfold epochW; have := h.1; omega
  have hs0 : 0 ≤ seqW x := by unfold seqW; have := h.1; omega
  have hs1 : seqW x ≤ 2147483647 := by unfold seqW; have := h.1; omega
  have CP := fun W => refParts_any x W h
  generalize hE : epochW x = E at *
  generalize hS : seqW x = S at *
  have hn : nextW x e = if e < 0 ∨ 2147483647 < e then (0, 2) else if e < E then (0, 40) else if E < e then (e * 2147483648 + 1, 0) else if 1073741823 ≤ S then (0, 40) else (e * 2147483648 + S + 1, 0) := by unfold nextW; rw [hE, hS]
  have HN := Lib.hid hn
  have HC := Lib.hid CP
  clear CP hn hE hS h
  obtain ⟨he0, he1⟩ := he
  go_enter Try.func20, Try.ntmps20
  by_cases c1 : e < 0 ∨ 2147483647 < e
  · rcases Int.lt_or_le e 0 with c | c
    all_goals
      go_wp2_with fail
      exact bodyPost_ret (v := .tuple #[.int .u64 0, .int .i64 2]) (by simp [results, Try.results20, go_sem]) rfl ⟨by rw [HN.out, if_pos c1], Below.refl _ _⟩
  · have d0 : 0 ≤ e := by omega
    have d1 : e ≤ 2147483647 := by omega
    have e1 : IntKind.u64.wrap e = e := wraps_u64 _ d0 (by omega)
    have d2 : ¬ e < 0 := by omega
    have d3 : ¬ 2147483647 < e := by omega
    go_wp2_with fail
    refine (HC.out _).mono ?_
    rintro r w1 ⟨rfl, rfl⟩
    rcases Int.lt_trichotomy e E with c2 | c2 | c2
    · go_wp2_with fail
      exact bodyPost_ret (v := .tuple #[.int .u64 0, .int .i64 40]) (by simp [results, Try.results20, go_sem]) rfl ⟨by rw [HN.out, if_neg c1, if_pos c2], Below.refl _ _⟩
    · subst c2
      by_cases c3 : 1073741823 ≤ S
      · go_wp2_with fail
        exact bodyPost_ret (v := .tuple #[.int .u64 0, .int .i64 40]) (by simp [results, Try.results20, go_sem]) rfl ⟨by rw [HN.out, if_neg c1, if_neg (by omega), if_neg (by omega), if_pos c3], Below.refl _ _⟩
      · have e2 : IntKind.i64.wrap S = S := IntWalk.i64_in _ (by omega)
        have e3 : IntKind.i64.wrap (S + 1) = S + 1 := IntWalk.i64_in _ (by omega)
        have CK := Lib.hid (fun W => refPackT_any e (S + 1) false false W (right_iff.2 ⟨by omega, by omega, by omega, by omega⟩))
        unfold tidV at CK
        go_wp2_with fail
        refine (CK.out _).mono ?_
        rintro r w2 ⟨rfl, b2⟩
        go_wp2_with fail
        exact bodyPost_ret (v := .tuple #[.int .u64 (packT e (S + 1) false false), .int .i64 0]) (by simp [results, Try.results20, go_sem]) rfl ⟨by rw [HN.out, if_neg c1, if_neg (by omega), if_neg (by omega), if_neg (by omega)]; unfold packT; simp [Int.add_assoc], b2⟩
    · have CK := Lib.hid (fun W => refPackT_any e 1 false false W (right_iff.2 ⟨by omega, by omega, by omega, by omega⟩))
      unfold tidV at CK
      go_wp2_with fail
      refine (CK.out _).mono ?_
      rintro r w2 ⟨rfl, b2⟩
      go_wp2_with fail
      exact bodyPost_ret (v := .tuple #[.int .u64 (packT e 1 false false), .int .i64 0]) (by simp [results, Try.results20, go_sem]) rfl ⟨by rw [HN.out, if_neg c1, if_neg (by omega), if_pos c2]; unfold packT; simp, b2⟩
end Go.Proofs.Ytphbckddcckgdaa
