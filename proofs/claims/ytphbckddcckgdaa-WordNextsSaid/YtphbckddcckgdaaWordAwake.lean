/- The document's examples of words hold. -/
import Derived.Test.YtphbckddcckgdaaWordMost
set_option linter.unusedVariables false
namespace Go.Proofs.Ytphbckddcckgdaa
open Go Go.RowKit

theorem aw_pack : packV 1 2 false false = .tuple #[.int .u64 2147483650, .int .i64 0] := by
  unfold packV
  rw [show rightT 1 2 = true from by decide]
  rfl
theorem aw_n1 : nextW 2147483650 1 = (2147483651, 0) := by decide
theorem aw_n2 : nextW 2147483650 2 = (4294967297, 0) := by decide
theorem aw_n3 : nextW 2147483650 0 = (0, 40) := by decide
set_option maxHeartbeats 4000000 in
set_option maxRecDepth 100000 in
theorem awake_any (w : World) : Calls Try.prog 9 #[] w fun e w' => e = .returned (.bool true) ∧ Below w.heap.size w w' := by
  have hu : U64 2147483650 := ⟨by decide, by decide⟩
  have c0 := fun W => wordPack_any 1 2 false false W ⟨by decide, by decide⟩ ⟨by decide, by decide⟩
  have c1 := fun W => wordNext_any 2147483650 1 W hu ⟨by decide, by decide⟩
  have c2 := fun W => wordNext_any 2147483650 2 W hu ⟨by decide, by decide⟩
  have c3 := fun W => wordNext_any 2147483650 0 W hu ⟨by decide, by decide⟩
  rw [aw_pack] at c0
  rw [aw_n1] at c1
  rw [aw_n2] at c2
  rw [aw_n3] at c3
  unfold tidV at c0
  have C0 := Lib.hid c0
  have C1 := Lib.hid c1
  have C2 := Lib.hid c2
  have C3 := Lib.hid c3
  clear c0 c1 c2 c3
  go_enter Try.func9, Try.ntmps9
  go_wp2_with fail
  refine (C0.out _).mono ?_
  rintro e w1 ⟨rfl, b1⟩
  go_wp2_with fail
  refine (C1.out _).mono ?_
  rintro e w2 ⟨rfl, b2⟩
  go_wp2_with fail
  refine (C2.out _).mono ?_
  rintro e w3 ⟨rfl, b3⟩
  go_wp2_with fail
  refine (C3.out _).mono ?_
  rintro e w4 ⟨rfl, b4⟩
  go_wp2_with fail
  go_ret
  exact ⟨rfl, btW (btW (btW b1 b2) b3) b4⟩
end Go.Proofs.Ytphbckddcckgdaa
