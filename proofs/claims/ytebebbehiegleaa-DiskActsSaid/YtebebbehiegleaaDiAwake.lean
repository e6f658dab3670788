/- The document's example of layer 7. -/
import Derived.Test.YtebebbehiegleaaDiSpec
import Derived.Test.YtebebbehiegleaaLitG
import Derived.Deep.DeepCutAuto
import Derived.Deep.CutBlock
import Derived.Handy
set_option linter.unusedVariables false
namespace Go.Proofs.Ytebebbehiegleaa
open Go Go.RowKit

set_option maxHeartbeats 8000000 in
set_option maxRecDepth 100000 in
theorem awake_any (C : DiSpec) (w : World) : Calls Try.prog 7 #[] w fun e w' => e = .returned (.bool true) ∧ Below w.heap.size w w' := by
  have HN := Lib.hid (C.new_ 9 w (by decide))
  go_enter Try.func7, Try.ntmps7
  go_wp2_with fail
  refine HN.out.mono ?_
  rintro e x1 ⟨N, S1, rfl, a1, b1⟩
  have hcv := conv_const x1 #[.int .u8 97, .int .u8 98] 2 2
  have hrd := const_arg x1 #[.int .u8 97, .int .u8 98] [97, 98] rfl
  have lt1 := fun k hk => (C.foot a1 k hk).2
  have lo1 := fun k hk => (C.foot a1 k hk).1
  have hf1 : FreeS S1 (some ⟨x1.heap.size + 1, 0, none⟩) [⟨some ⟨x1.heap.size, 0, none⟩, 2, [97, 98]⟩] := FreeS.new lt1 (fun ad e => by injection e with e; rw [← e]; exact Nat.le_succ _) (fun z hz ad e => by rw [List.mem_singleton.1 hz] at e; injection e with e; rw [← e]; exact Nat.le_refl _)
  have hA1 := C.app_ (some ⟨x1.heap.size + 1, 0, none⟩) 1 _ (C.alloc (C.alloc a1 (.cells #[.int .u8 97, .int .u8 98] 5 (2, 3))) (.cells #[.slice (some ⟨x1.heap.size, 0, none⟩) 2 2] 29)) hrd hf1 (Nat.le_refl _) (by show 1 ≤ 1000; decide) (by show 2 ≤ 300000; decide) (by show 0 ≤ 300000; decide) (by show 0 + 2 ≤ 9; decide)
  have b1' := (b1.alloc b1.size (.cells #[.int .u8 97, .int .u8 98] 5 (2, 3))).alloc (Nat.le_trans b1.size (by simp)) (.cells #[.slice (some ⟨x1.heap.size, 0, none⟩) 2 2] 29)
  have HA1 := Lib.hid hA1
  have HB1 := Lib.hid b1'
  clear hA1 hrd hf1 a1 b1 lt1 b1' HN
  go_wp2_with fail
  refine HA1.out.mono ?_
  rintro e x2 ⟨S2, rfl, a2, m2⟩
  have a2 : C.At x2 w.heap.size N 9 [97, 98] 0 S2 := a2
  have b2 := m2.below HB1.out lo1
  have lo2 := fun k hk => (C.foot a2 k hk).1
  have hF2 : Hid (Calls Try.prog 12 #[.pointer (some ⟨N, 0, none⟩)] x2 fun e w' => ∃ S', e = .returned (.int .i64 2) ∧ C.At w' w.heap.size N 9 [97, 98] 2 S' ∧ Moved S2 S' x2 w') := Lib.hid (C.flush_ a2)
  clear hcv HA1 HB1 m2 a2 lo1
  go_wp2_with fail
  refine hF2.out.mono ?_
  rintro e x3 ⟨S3, rfl, a3, m3⟩
  have b3 := m3.below b2 lo2
  have lo3 := fun k hk => (C.foot a3 k hk).1
  have lt3 := fun k hk => (C.foot a3 k hk).2
  have hcv := conv_const x3 #[.int .u8 99, .int .u8 100] 2 2
  have hrd := const_arg x3 #[.int .u8 99, .int .u8 100] [99, 100] rfl
  have hf3 : FreeS S3 (some ⟨x3.heap.size + 1, 0, none⟩) [⟨some ⟨x3.heap.size, 0, none⟩, 2, [99, 100]⟩] := FreeS.new lt3 (fun ad e => by injection e with e; rw [← e]; exact Nat.le_succ _) (fun z hz ad e => by rw [List.mem_singleton.1 hz] at e; injection e with e; rw [← e]; exact Nat.le_refl _)
  have hA3 := C.app_ (some ⟨x3.heap.size + 1, 0, none⟩) 1 _ (C.alloc (C.alloc a3 (.cells #[.int .u8 99, .int .u8 100] 5 (2, 3))) (.cells #[.slice (some ⟨x3.heap.size, 0, none⟩) 2 2] 29)) hrd hf3 (Nat.le_refl _) (by show 1 ≤ 1000; decide) (by show 2 ≤ 300000; decide) (by show 2 ≤ 300000; decide) (by show 2 + 2 ≤ 9; decide)
  have b3' := (b3.alloc b3.size (.cells #[.int .u8 99, .int .u8 100] 5 (2, 3))).alloc (Nat.le_trans b3.size (by simp)) (.cells #[.slice (some ⟨x3.heap.size, 0, none⟩) 2 2] 29)
  have HA3 := Lib.hid hA3
  have HB3 := Lib.hid b3'
  clear hA3 hrd hf3 a3 b3 lt3 b3' hF2 m3 b2 lo2
  go_wp2_with fail
  refine HA3.out.mono ?_
  rintro e x4 ⟨S4, rfl, a4, m4⟩
  have a4 : C.At x4 w.heap.size N 9 [97, 98, 99, 100] 2 S4 := a4
  have b4 := m4.below HB3.out lo3
  have lo4 := fun k hk => (C.foot a4 k hk).1
  have hC4 : Hid (Calls Try.prog 13 #[.pointer (some ⟨N, 0, none⟩), .int .i64 1] x4 fun e w' => ∃ S', e = .returned (.int .i64 3) ∧ C.At w' w.heap.size N 9 [97, 98, 99] 3 S' ∧ Moved S4 S' x4 w') := Lib.hid (C.crash_ 1 a4 ⟨by decide, by decide⟩ (by show 4 ≤ 600000; decide))
  clear hcv HA3 HB3 m4 a4 lo3
  go_wp2_with fail
  refine hC4.out.mono ?_
  rintro e x5 ⟨S5, rfl, a5, m5⟩
  have b5 := m5.below b4 lo4
  have hB5 := Lib.hid (C.bytes_ a5 (by show 3 ≤ 600000; decide))
  clear hC4 m5 a5 lo4
  go_wp2_with fail
  refine hB5.out.mono ?_
  rintro e x6 ⟨v, rfl, r6, b6⟩
  have b7 := b5.trans (b6.mono b5.size)
  obtain ⟨A6, c6, rfl, _, rd6, _, _⟩ := r6.rd
  have hcv := conv_rd (l := 3) (c := c6) rd6 rfl
  clear r6 rd6 b6 b5 hB5
  go_wp2_with fail
  go_ret
  exact ⟨rfl, b7⟩
end Go.Proofs.Ytebebbehiegleaa
