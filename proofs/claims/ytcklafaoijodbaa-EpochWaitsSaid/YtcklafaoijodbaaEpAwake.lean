/- The document's example of epochs holds, for whatever table answers as it must. -/
import Derived.Test.YtcklafaoijodbaaEpTold
set_option linter.unusedVariables false
namespace Go.Proofs.Ytcklafaoijodbaa
open Go Go.RowKit

set_option maxHeartbeats 8000000 in
set_option maxRecDepth 100000 in
theorem awake_any (C : EpSpec) (w : World) : Calls Try.prog 6 #[] w fun e w' => e = .returned (.bool true) ∧ Below w.heap.size w w' := by
  have i0 : I64 0 := ⟨by decide, by decide⟩
  have g1 : GoodT 5 (List.replicate 2 (-1)) := GoodT.start (by decide) (by decide) (by decide)
  have g2 : GoodT 5 [5, -1] := g1.enter 0
  have g3 : GoodT 6 [5, -1] := g2.adv
  have g4 : GoodT 6 [6, -1] := g3.leave 0 true
  have n1 : Calls Try.prog 7 #[.int .i64 2, .int .i64 5] w _ := (C.new_ 2 5 w (by decide) (by decide) (by decide) (by decide))
  have HN1 := Lib.hid n1
  clear n1
  have G1 := Lib.hid g1
  have G2 := Lib.hid g2
  have G3 := Lib.hid g3
  have G4 := Lib.hid g4
  clear g1 g2 g3 g4
  go_enter Try.func6, Try.ntmps6
  go_wp2_with fail
  refine HN1.out.mono ?_
  rintro e w1 ⟨N, S1, rfl, h1, b1⟩
  have lo1 := fun k hk => (C.foot h1 k hk).1
  have t1 : Calls Try.prog 9 #[.pointer (some ⟨N, 0, none⟩), .int .i64 0] w1 fun e w' => ∃ S', e = .returned (.tuple #[.int .i64 5, .int .i64 0]) ∧ C.At w' w.heap.size N 5 [5, -1] S' ∧ Moved S1 S' w1 w' := C.enter_ 0 h1 G1.out i0
  have HT1 := Lib.hid t1
  clear t1
  go_wp2_with fail
  refine HT1.out.mono ?_
  rintro e w2 ⟨S2, rfl, h2, m2⟩
  have b2 := m2.below b1 lo1
  have lo2 := fun k hk => (C.foot h2 k hk).1
  have t2 : Calls Try.prog 14 #[.pointer (some ⟨N, 0, none⟩)] w2 fun e w' => ∃ S', e = .returned (.tuple #[.int .i64 6, .int .i64 0]) ∧ C.At w' w.heap.size N 6 [5, -1] S' ∧ Moved S2 S' w2 w' := C.advance_ h2 G2.out
  have HT2 := Lib.hid t2
  clear t2
  go_wp2_with fail
  refine HT2.out.mono ?_
  rintro e w3 ⟨S3, rfl, h3, m3⟩
  have b3 := m3.below b2 lo2
  have lo3 := fun k hk => (C.foot h3 k hk).1
  have t3 : Calls Try.prog 14 #[.pointer (some ⟨N, 0, none⟩)] w3 fun e w' => ∃ S', e = .returned (.tuple #[.int .i64 0, .int .i64 60]) ∧ C.At w' w.heap.size N 6 [5, -1] S' ∧ Moved S3 S' w3 w' := C.advance_ h3 G3.out
  have HT3 := Lib.hid t3
  clear t3
  go_wp2_with fail
  refine HT3.out.mono ?_
  rintro e w4 ⟨S4, rfl, h4, m4⟩
  have b4 := m4.below b3 lo3
  have lo4 := fun k hk => (C.foot h4 k hk).1
  have t4 : Calls Try.prog 13 #[.pointer (some ⟨N, 0, none⟩), .int .i64 0] w4 fun e w' => ∃ S', e = .returned (.tuple #[.int .i64 6, .int .i64 0]) ∧ C.At w' w.heap.size N 6 [6, -1] S' ∧ Moved S4 S' w4 w' := C.refresh_ 0 h4 G3.out i0
  have HT4 := Lib.hid t4
  clear t4
  go_wp2_with fail
  refine HT4.out.mono ?_
  rintro e w5 ⟨S5, rfl, h5, m5⟩
  have b5 := m5.below b4 lo4
  have lo5 := fun k hk => (C.foot h5 k hk).1
  have t5 : Calls Try.prog 14 #[.pointer (some ⟨N, 0, none⟩)] w5 fun e w' => ∃ S', e = .returned (.tuple #[.int .i64 7, .int .i64 0]) ∧ C.At w' w.heap.size N 7 [6, -1] S' ∧ Moved S5 S' w5 w' := C.advance_ h5 G4.out
  have HT5 := Lib.hid t5
  clear t5
  go_wp2_with fail
  refine HT5.out.mono ?_
  rintro e w6 ⟨S6, rfl, h6, m6⟩
  have b6 := m6.below b5 lo5
  go_wp2_with fail
  go_ret
  exact ⟨rfl, b6⟩
end Go.Proofs.Ytcklafaoijodbaa
