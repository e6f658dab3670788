/- Which values are right, and their things: the code's own. -/
import Derived.Test.YtgacphpkgaobkaaDoorProg
import Derived.Test.YtgacphpkgaobkaaDoorValRef
import Derived.Test.YtgacphpkgaobkaaDoorRun
import Derived.WalkKit
import Derived.WalkSmall
import Derived.Below
import Derived.OwnWalk
import Derived.Lib.Hide
import Derived.Deep.QuietTactic
import Derived.BigQuiet
set_option linter.unusedVariables false
namespace Go.Proofs.YtgacphpkgaobkaaDoor
open Go Go.RowKit

def isIntV (k : Int) (s : ByteArray) : Bool := k == 1 && s.toList.isEmpty
def isTextV (k n : Int) (s : ByteArray) : Bool := k == 2 && n == 0 && decide (s.size ≤ 200)

set_option maxHeartbeats 1000000 in
set_option maxRecDepth 100000 in
theorem isInt_any (k n : Int) (s : ByteArray) (w : World) :
    Calls Tryd.prog 61 #[valV k n s] w fun e w' => e = .returned (.bool (isIntV k s)) ∧ Below w.heap.size w w' := by
  have hb0 : Below w.heap.size w (w.alloc (.cells #[.int .i64 k, .int .i64 n, .string s] 36)) := (Below.refl _ _).alloc (Nat.le_refl _) _
  unfold valV
  by_cases h1 : k = 1
  · subst h1
    go_enter Tryd.func61, Tryd.ntmps61
    go_wp2
    all_goals go_ret
    all_goals exact ⟨ret_boolV (by first | (simp [isIntV]; done) | (simp [isIntV]; assumption)), hb0⟩
  · have e1 : (k == 1) = false := by simpa using h1
    go_enter Tryd.func61, Tryd.ntmps61
    go_wp2
    all_goals go_ret
    all_goals exact ⟨ret_boolV (by simp [isIntV, h1]), hb0⟩

set_option maxHeartbeats 1000000 in
set_option maxRecDepth 100000 in
theorem isText_any (k n : Int) (s : ByteArray) (w : World) :
    Calls Tryd.prog 62 #[valV k n s] w fun e w' => e = .returned (.bool (isTextV k n s)) ∧ Below w.heap.size w w' := by
  have hb0 : Below w.heap.size w (w.alloc (.cells #[.int .i64 k, .int .i64 n, .string s] 36)) := (Below.refl _ _).alloc (Nat.le_refl _) _
  unfold valV
  by_cases h2 : k = 2
  · subst h2
    by_cases h3 : n = 0
    · subst h3
      go_enter Tryd.func62, Tryd.ntmps62
      go_wp2
      all_goals go_ret
      all_goals exact ⟨ret_boolV (by first | (simp [isTextV]; done) | (simp [isTextV]; assumption) | (simp [isTextV]; omega)), hb0⟩
    · have e3 : (n == 0) = false := by simpa using h3
      go_enter Tryd.func62, Tryd.ntmps62
      go_wp2
      all_goals go_ret
      all_goals exact ⟨ret_boolV (by simp [isTextV, h3]), hb0⟩
  · have e2 : (k == 2) = false := by simpa using h2
    go_enter Tryd.func62, Tryd.ntmps62
    go_wp2
    all_goals go_ret
    all_goals exact ⟨ret_boolV (by simp [isTextV, h2]), hb0⟩
def numT (n : Int) : Value := .iface 3 (.int .i64 n)
def strT (s : ByteArray) : Value := .iface 9 (.string s)
/-- The kinds of values, as the walks part on them. -/
theorem isTextV_size {k n : Int} {s : ByteArray} (h : isTextV k n s = true) : s.size ≤ 200 := by
  unfold isTextV at h
  simp at h
  exact h.2
/-- A value that a call has boxed: its three cells. -/
structure Box (W : World) (N : Nat) (k n : Int) (s : ByteArray) : Prop where
  c0 : W.cell? { block := N, off := 0 } = some (.int .i64 k)
  c1 : W.cell? { block := N, off := 1 } = some (.int .i64 n)
  c2 : W.cell? { block := N, off := 2 } = some (.string s)
theorem Box.new (w : World) (k n : Int) (s : ByteArray) : Box (w.alloc (.cells #[.int .i64 k, .int .i64 n, .string s] 36)) w.heap.size k n s := by
  constructor <;> (rw [World.cell?_alloc_mark]; rfl)
theorem Box.block {W W' : World} {N : Nat} {k n : Int} {s : ByteArray} (h : Box W N k n s) (e : W'.heap[N]? = W.heap[N]?) : Box W' N k n s :=
  ⟨(World.cell?_of_block e).trans h.c0, (World.cell?_of_block e).trans h.c1, (World.cell?_of_block e).trans h.c2⟩
theorem Box.below {W W' : World} {N B : Nat} {k n : Int} {s : ByteArray} (h : Box W N k n s) (hN : N < B) (hb : Below B W W') : Box W' N k n s := h.block (hb.block N hN)

def thing0 (k n : Int) (s : ByteArray) : Value := if isIntV k s then numT n else if isTextV k n s then strT s else .nilIface
def thingE (k n : Int) (s : ByteArray) : Int := if rightV k n s then 0 else 22
theorem rightV_eq (k n : Int) (s : ByteArray) : rightV k n s = (isIntV k s || isTextV k n s) := rfl

set_option maxHeartbeats 1000000 in
set_option maxRecDepth 100000 in
theorem thing_any (k n : Int) (s : ByteArray) (w : World) :
    Calls Tryd.prog 77 #[valV k n s] w fun e w' => e = .returned (.tuple #[thing0 k n s, .int .i64 (thingE k n s)]) ∧ Below w.heap.size w w' := by
  have hI := fun W => isInt_any k n s W
  have hT := fun W => isText_any k n s W
  have hb0 : Below w.heap.size w (w.alloc (.cells #[.int .i64 k, .int .i64 n, .string s] 36)) := (Below.refl _ _).alloc (Nat.le_refl _) _
  have hbx := Box.new w k n s
  have hsz0 : (w.alloc (.cells #[.int .i64 k, .int .i64 n, .string s] 36)).heap.size = w.heap.size + 1 := by simp
  unfold valV at hI hT ⊢
  cases h1 : isIntV k s with
  | true =>
    have HR : Hid (thing0 k n s = numT n ∧ thingE k n s = 0) := Lib.hid (by unfold thing0 thingE; rw [rightV_eq, h1]; exact ⟨rfl, rfl⟩)
    rw [h1] at hI
    have HI := Lib.hid hI
    have HB := Lib.hid hbx
    clear hI hT hbx h1
    go_enter Tryd.func77, Tryd.ntmps77
    go_wp2_with fail
    refine (HI.out _).mono ?_
    rintro e w1 ⟨rfl, b1⟩
    obtain ⟨c0, c1, c2⟩ := HB.out.below (by rw [hsz0]; omega) b1
    go_wp2_with fail
    go_ret2
    rw [HR.out.1, HR.out.2]
    exact ⟨rfl, btV hb0 b1⟩
  | false =>
    cases h2 : isTextV k n s with
    | true =>
      have hs := isTextV_size h2
      have HR : Hid (thing0 k n s = strT s ∧ thingE k n s = 0) := Lib.hid (by unfold thing0 thingE; rw [rightV_eq, h1, h2]; exact ⟨rfl, rfl⟩)
      rw [h1] at hI
      rw [h2] at hT
      have HI := Lib.hid hI
      have HT := Lib.hid hT
      have HB := Lib.hid hbx
      clear hI hT hbx h1 h2
      go_enter Tryd.func77, Tryd.ntmps77
      go_wp2_with fail
      refine (HI.out _).mono ?_
      rintro e w1 ⟨rfl, b1⟩
      have HB1 := Lib.hid (HB.out.below (by rw [hsz0]; omega) b1)
      have c0 := HB1.out.c0
      have c1 := HB1.out.c1
      have c2 := HB1.out.c2
      have s1 := b1.size
      rw [hsz0] at s1
      go_wp2_with fail
      refine (HT.out _).mono ?_
      rintro e w2 ⟨rfl, b2⟩
      have HB2 := Lib.hid (HB1.out.below (by omega) b2)
      clear c0 c1 c2
      have c0 := HB2.out.c0
      have c1 := HB2.out.c1
      have c2 := HB2.out.c2
      go_wp2_with fail
      refine (clone_any s _ (by omega)).mono ?_
      rintro e w3 ⟨rfl, b3⟩
      go_wp2_with fail
      go_ret2
      rw [HR.out.1, HR.out.2]
      exact ⟨rfl, btV (btV (btV hb0 b1) b2) b3⟩
    | false =>
      have HR : Hid (thing0 k n s = .nilIface ∧ thingE k n s = 22) := Lib.hid (by unfold thing0 thingE; rw [rightV_eq, h1, h2]; exact ⟨rfl, rfl⟩)
      rw [h1] at hI
      rw [h2] at hT
      have HI := Lib.hid hI
      have HT := Lib.hid hT
      have HB := Lib.hid hbx
      clear hI hT hbx h1 h2
      go_enter Tryd.func77, Tryd.ntmps77
      go_wp2_with fail
      refine (HI.out _).mono ?_
      rintro e w1 ⟨rfl, b1⟩
      have HB1 := Lib.hid (HB.out.below (by rw [hsz0]; omega) b1)
      have c0 := HB1.out.c0
      have c1 := HB1.out.c1
      have c2 := HB1.out.c2
      go_wp2_with fail
      refine (HT.out _).mono ?_
      rintro e w2 ⟨rfl, b2⟩
      go_wp2_with fail
      go_ret2
      rw [HR.out.1, HR.out.2]
      exact ⟨rfl, btV (btV hb0 b1) b2⟩
end Go.Proofs.YtgacphpkgaobkaaDoor
