/- The document's own answers for values: which are right, their order. -/
import Derived.Test.YtkimibppfniejaaDoorProg
import Derived.Test.YtkimibppfniejaaDoorValMath
import Derived.WalkKit
import Derived.WalkSmall
import Derived.Below
import Derived.OwnWalk
import Derived.Lib.Hide
import Derived.Deep.QuietTactic
import Derived.BigQuiet
set_option linter.unusedVariables false
namespace Go.Proofs.YtkimibppfniejaaDoor
open Go Go.RowKit

/-- Which values are right. -/
def rightV (k n : Int) (s : ByteArray) : Bool := (k == 1 && s.toList.isEmpty) || (k == 2 && n == 0 && decide (s.size ≤ 200))
theorem ret_boolV {a b : Bool} (h : a = b) : Ending.returned (.bool a) = .returned (.bool b) := by rw [h]
def valV (k n : Int) (s : ByteArray) : Value := .agg #[.int .i64 k, .int .i64 n, .string s]

set_option maxHeartbeats 1000000 in
set_option maxRecDepth 100000 in
theorem refSign_any (b : Bool) (w : World) : Calls Tryd.prog 36 #[.bool b] w fun e w' => e = .returned (.int .i64 (if b then -1 else 1)) ∧ w = w' := by
  cases b
  · go_enter Tryd.func36, Tryd.ntmps36
    go_wp2
    go_ret
    exact ⟨rfl, rfl⟩
  · go_enter Tryd.func36, Tryd.ntmps36
    go_wp2
    go_ret
    exact ⟨rfl, rfl⟩

set_option maxHeartbeats 1000000 in
set_option maxRecDepth 100000 in
theorem refRightV_any (k n : Int) (s : ByteArray) (w : World) :
    Calls Tryd.prog 10 #[valV k n s] w fun e w' => e = .returned (.bool (rightV k n s)) ∧ Below w.heap.size w w' := by
  have hb0 : Below w.heap.size w (w.alloc (.cells #[.int .i64 k, .int .i64 n, .string s] 23)) := (Below.refl _ _).alloc (Nat.le_refl _) _
  unfold valV
  by_cases h1 : k = 1
  · subst h1
    go_enter Tryd.func10, Tryd.ntmps10
    go_wp2
    all_goals go_ret
    all_goals exact ⟨ret_boolV (by first | (simp [rightV]; done) | (simp [rightV]; assumption) | (simp [rightV]; omega)), hb0⟩
  · by_cases h2 : k = 2
    · subst h2
      by_cases h3 : n = 0
      · subst h3
        go_enter Tryd.func10, Tryd.ntmps10
        go_wp2
        all_goals go_ret
        all_goals exact ⟨ret_boolV (by first | (simp [rightV]; done) | (simp [rightV]; assumption) | (simp [rightV]; omega)), hb0⟩
      · have e3 : (n == 0) = false := by simpa using h3
        go_enter Tryd.func10, Tryd.ntmps10
        go_wp2
        all_goals go_ret
        all_goals exact ⟨ret_boolV (by simp [rightV, h3]), hb0⟩
    · have e1 : (k == 1) = false := by simpa using h1
      have e2 : (k == 2) = false := by simpa using h2
      go_enter Tryd.func10, Tryd.ntmps10
      go_wp2
      all_goals go_ret
      all_goals exact ⟨ret_boolV (by simp [rightV, h1, h2]), hb0⟩

/-! ### the order -/
theorem drop_at (a : ByteArray) (i : Nat) (h : i < a.size) : a.data.toList.drop i = a[i] :: a.data.toList.drop (i + 1) := by
  have h2 : i < a.data.toList.length := by rw [Array.length_toList]; exact h
  rw [List.drop_eq_getElem_cons h2]
  rfl
theorem drop_end (a : ByteArray) (i : Nat) (h : a.size ≤ i) : a.data.toList.drop i = [] := List.drop_eq_nil_of_le (by rw [Array.length_toList]; exact h)
theorem ordB_left (b : UInt8) (t : List UInt8) : ordB [] (b :: t) = -1 := rfl
theorem ordB_right (b : UInt8) (t : List UInt8) : ordB (b :: t) [] = 1 := rfl
theorem ret_intV {a b : Int} (h : a = b) : Ending.returned (.int .i64 a) = .returned (.int .i64 b) := by rw [h]
theorem btV {w a b : World} (h1 : Below w.heap.size w a) (h2 : Below a.heap.size a b) : Below w.heap.size w b := h1.trans (h2.mono h1.size)
set_option maxHeartbeats 1000000 in
set_option maxRecDepth 100000 in
theorem refOrder_any (a b : ByteArray) (w : World) (ha : a.size ≤ 1000000) (hb : b.size ≤ 1000000) :
    Calls Tryd.prog 20 #[.string a, .string b] w fun e w' => e = .returned (.int .i64 (ordB a.data.toList b.data.toList)) ∧ Below w.heap.size w w' := by
  go_enter Tryd.func20, Tryd.ntmps20
  go_wp2
  go_loopw [5] (fun i wr => ∃ k : Nat, k ≤ a.size ∧ k ≤ b.size ∧ i = .int .i64 (k : Nat) ∧ Below w.heap.size w wr ∧ ordB (a.data.toList.drop k) (b.data.toList.drop k) = ordB a.data.toList b.data.toList) (fun i _ => a.size - (intOf i).toNat)
  case atStart => exact ⟨0, Nat.zero_le _, Nat.zero_le _, rfl, Below.refl _ _, by simp⟩
  case round =>
    obtain ⟨k, hk1, hk2, rfl, hbw, hacc⟩ := hrel
    have HA := Lib.hid hacc
    clear hacc
    by_cases h1 : k < a.size
    · by_cases h2 : k < b.size
      · have da := drop_at a k h1
        have db := drop_at b k h2
        have hst := ordB_cons a[k] b[k] (a.data.toList.drop (k + 1)) (b.data.toList.drop (k + 1))
        rw [← da, ← db, HA.out] at hst
        clear da db
        obtain ⟨x, hx⟩ : ∃ x, (a[k]).toNat = x := ⟨_, rfl⟩
        obtain ⟨y, hy⟩ : ∃ y, (b[k]).toNat = y := ⟨_, rfl⟩
        rw [hx, hy] at hst
        have HS := Lib.hid hst
        clear hst
        by_cases c1 : x < y
        · have hout : ordB a.data.toList b.data.toList = -1 := by rw [HS.out, if_pos c1]
          have HO := Lib.hid hout
          clear hout
          go_wp2_with fail
          go_quiet (fail)
          have hbq : Below w.heap.size w (wr.drewN nq) := below_drewN hbw _
          generalize wr.drewN nq = wq at *
          go_wp2_with fail
          go_quiet ((go_at_call 36; exact Calls.quiet_of_same ((refSign_any _ _).mono fun _ _ ⟨x, y⟩ => ⟨x, y.symm⟩)))
          go_wp2_with fail
          go_ret
          exact ⟨ret_intV HO.out.symm, by first | exact below_drewN hbq _ | exact hbq⟩
        · by_cases c2 : y < x
          · have hout : ordB a.data.toList b.data.toList = 1 := by rw [HS.out, if_neg c1, if_pos c2]
            have HO := Lib.hid hout
            clear hout
            go_wp2_with fail
            go_quiet (fail)
            have hbq : Below w.heap.size w (wr.drewN nq) := below_drewN hbw _
            generalize wr.drewN nq = wq at *
            go_wp2_with fail
            go_quiet ((go_at_call 36; exact Calls.quiet_of_same ((refSign_any _ _).mono fun _ _ ⟨x, y⟩ => ⟨x, y.symm⟩)))
            go_wp2_with fail
            go_ret
            exact ⟨ret_intV HO.out.symm, by first | exact below_drewN hbq _ | exact hbq⟩
          · obtain rfl : x = y := by omega
            have hout : ordB (a.data.toList.drop (k + 1)) (b.data.toList.drop (k + 1)) = ordB a.data.toList b.data.toList := by rw [HS.out, if_neg c1, if_neg c1]
            have HO := Lib.hid hout
            clear hout
            go_wp2_with fail
            go_quiet (fail)
            go_wp2_with fail
            go_roundw
            case rel => exact ⟨k + 1, by omega, by omega, by go_num, by first | exact below_drewN hbw _ | exact hbw, HO.out⟩
            case measure => simp [intOf]; omega
      · obtain rfl : k = b.size := by omega
        have hout : ordB a.data.toList b.data.toList = 1 := by rw [← HA.out, drop_at a _ h1, drop_end b _ (Nat.le_refl _), ordB_right]
        have HO := Lib.hid hout
        clear hout
        go_wp2_with fail
        refine (refSign_any _ _).mono ?_
        rintro e w2 ⟨rfl, rfl⟩
        go_wp2_with fail
        go_ret
        exact ⟨ret_intV HO.out.symm, hbw⟩
    · obtain rfl : k = a.size := by omega
      by_cases h2 : a.size < b.size
      · have hout : ordB a.data.toList b.data.toList = -1 := by rw [← HA.out, drop_at b _ h2, drop_end a _ (Nat.le_refl _), ordB_left]
        have HO := Lib.hid hout
        clear hout
        go_wp2_with fail
        refine (refSign_any _ _).mono ?_
        rintro e w2 ⟨rfl, rfl⟩
        go_wp2_with fail
        go_ret
        exact ⟨ret_intV HO.out.symm, hbw⟩
      · have e : a.size = b.size := by omega
        have hout : ordB a.data.toList b.data.toList = 0 := by rw [← HA.out, drop_end b _ (by omega), drop_end a _ (Nat.le_refl _)]; rfl
        have HO := Lib.hid hout
        clear hout
        go_wp2_with fail
        go_ret
        exact ⟨ret_intV HO.out.symm, hbw⟩

def cmpV (k1 n1 : Int) (s1 : ByteArray) (k2 n2 : Int) (s2 : ByteArray) : Int :=
  if k1 = k2 then (if n1 = n2 then ordB s1.data.toList s2.data.toList else if n1 < n2 then -1 else 1) else if k1 < k2 then -1 else 1
set_option maxHeartbeats 1000000 in
set_option maxRecDepth 100000 in
theorem refCompareV_any (k1 n1 : Int) (s1 : ByteArray) (k2 n2 : Int) (s2 : ByteArray) (w : World) (h1 : s1.size ≤ 1000000) (h2 : s2.size ≤ 1000000) :
    Calls Tryd.prog 15 #[valV k1 n1 s1, valV k2 n2 s2] w fun e w' => e = .returned (.int .i64 (cmpV k1 n1 s1 k2 n2 s2)) ∧ Below w.heap.size w w' := by
  have hO := fun W => refOrder_any s1 s2 W h1 h2
  have HO := Lib.hid hO
  clear hO
  have hb0 : Below w.heap.size w ((w.alloc (.cells #[.int .i64 k1, .int .i64 n1, .string s1] 23)).alloc (.cells #[.int .i64 k2, .int .i64 n2, .string s2] 23)) := ((Below.refl _ _).alloc (Nat.le_refl _) _).alloc (by simp) _
  unfold valV
  by_cases c1 : k1 = k2
  · subst c1
    by_cases c2 : n1 = n2
    · subst c2
      have HR : Hid (cmpV k1 n1 s1 k1 n1 s2 = ordB s1.data.toList s2.data.toList) := Lib.hid (by unfold cmpV; rw [if_pos rfl, if_pos rfl])
      go_enter Tryd.func15, Tryd.ntmps15
      go_wp2_with fail
      refine (HO.out _).mono ?_
      rintro e w2 ⟨rfl, b2⟩
      go_wp2_with fail
      go_ret
      exact ⟨ret_intV HR.out.symm, btV hb0 b2⟩
    · by_cases c3 : n1 < n2
      · have HR : Hid (cmpV k1 n1 s1 k1 n2 s2 = -1) := Lib.hid (by unfold cmpV; rw [if_pos rfl, if_neg c2, if_pos c3])
        go_enter Tryd.func15, Tryd.ntmps15
        go_wp2_with fail
        refine (refSign_any _ _).mono ?_
        rintro e w2 ⟨rfl, rfl⟩
        go_wp2_with fail
        go_ret
        exact ⟨ret_intV (by first | (rw [HR.out]; done) | (rw [HR.out]; simp [c3])), hb0⟩
      · have HR : Hid (cmpV k1 n1 s1 k1 n2 s2 = 1) := Lib.hid (by unfold cmpV; rw [if_pos rfl, if_neg c2, if_neg c3])
        go_enter Tryd.func15, Tryd.ntmps15
        go_wp2_with fail
        refine (refSign_any _ _).mono ?_
        rintro e w2 ⟨rfl, rfl⟩
        go_wp2_with fail
        go_ret
        exact ⟨ret_intV (by first | (rw [HR.out]; done) | (rw [HR.out]; simp [c3])), hb0⟩
  · by_cases c3 : k1 < k2
    · have HR : Hid (cmpV k1 n1 s1 k2 n2 s2 = -1) := Lib.hid (by unfold cmpV; rw [if_neg c1, if_pos c3])
      go_enter Tryd.func15, Tryd.ntmps15
      go_wp2_with fail
      refine (refSign_any _ _).mono ?_
      rintro e w2 ⟨rfl, rfl⟩
      go_wp2_with fail
      go_ret
      exact ⟨ret_intV (by first | (rw [HR.out]; done) | (rw [HR.out]; simp [c3])), hb0⟩
    · have HR : Hid (cmpV k1 n1 s1 k2 n2 s2 = 1) := Lib.hid (by unfold cmpV; rw [if_neg c1, if_neg c3])
      go_enter Tryd.func15, Tryd.ntmps15
      go_wp2_with fail
      refine (refSign_any _ _).mono ?_
      rintro e w2 ⟨rfl, rfl⟩
      go_wp2_with fail
      go_ret
      exact ⟨ret_intV (by first | (rw [HR.out]; done) | (rw [HR.out]; simp [c3])), hb0⟩
end Go.Proofs.YtkimibppfniejaaDoor
