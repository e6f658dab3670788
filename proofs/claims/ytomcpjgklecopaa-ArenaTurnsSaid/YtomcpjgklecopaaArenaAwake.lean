/- The document's example of an arena holds, for whatever arena answers as it must. -/
import Derived.Test.YtomcpjgklecopaaArenaSpec
set_option linter.unusedVariables false
namespace Go.Proofs.Ytomcpjgklecopaa
open Go Go.RowKit

set_option maxHeartbeats 8000000 in
set_option maxRecDepth 100000 in
theorem awake_any (C : ArSpec) (w : World) : Calls Try.prog 7 #[] w fun e w' => e = .returned (.bool true) ∧ Below w.heap.size w w' := by
  have hs2 : slotsR 2 = [(0, 0), (1, 0)] := rfl
  go_enter Try.func7, Try.ntmps7
  have n1 : Calls Try.prog 8 #[.int .i64 2] w _ := C.new_ 2 w (by decide)
  rw [hs2] at n1
  clear hs2
  have HN1 := Lib.hid n1
  clear n1
  go_wp2_with fail
  refine HN1.out.mono ?_
  rintro e w1 ⟨N, S1, rfl, h1, b1⟩
  have lo1 := fun k hk => (C.foot h1 k hk).1
  have t1 : Calls Try.prog 10 #[.pointer (some ⟨N, 0, none⟩)] w1 fun e w' => ∃ S', e = .returned (.tuple #[.agg #[.int .i64 0, .int .i64 0], .int .i64 0]) ∧ C.At w' w.heap.size N 2 [(1, 0)] [(0, 0)] S' ∧ Moved S1 S' w1 w' := C.take_ h1
  have HT1 := Lib.hid t1
  clear t1
  go_wp2_with fail
  refine HT1.out.mono ?_
  rintro e w2 ⟨S2, rfl, h2, m2⟩
  have b2 := m2.below b1 lo1
  have lo2 := fun k hk => (C.foot h2 k hk).1
  have x2 := BoxH.new (fun k hk => (C.foot h2 k hk).2) (0, 0)
  have h2' := C.alloc h2 (.cells #[.int .i64 0, .int .i64 0] 34)
  have b2' := b2.alloc b2.size (.cells #[.int .i64 0, .int .i64 0] 34)
  have t2 : Calls Try.prog 10 #[.pointer (some ⟨N, 0, none⟩)] (w2.alloc (.cells #[.int .i64 0, .int .i64 0] 34)) fun e w' => ∃ S', e = .returned (.tuple #[.agg #[.int .i64 1, .int .i64 0], .int .i64 0]) ∧ C.At w' w.heap.size N 2 [] [(0, 0), (1, 0)] S' ∧ Moved S2 S' (w2.alloc (.cells #[.int .i64 0, .int .i64 0] 34)) w' := C.take_ h2'
  have HT2 := Lib.hid t2
  clear t2 HT1 HN1
  go_wp2_with fail
  refine HT2.out.mono ?_
  rintro e w3 ⟨S3, rfl, h3, m3⟩
  have b3 := m3.below b2' lo2
  have lo3 := fun k hk => (C.foot h3 k hk).1
  have x3 := (x2.moved m3).alloc (.cells #[.int .i64 1, .int .i64 0] 34)
  have y3 := BoxH.new (fun k hk => (C.foot h3 k hk).2) (1, 0)
  have h3' := C.alloc h3 (.cells #[.int .i64 1, .int .i64 0] 34)
  have b3' := b3.alloc b3.size (.cells #[.int .i64 1, .int .i64 0] 34)
  have t3 : Calls Try.prog 10 #[.pointer (some ⟨N, 0, none⟩)] (w3.alloc (.cells #[.int .i64 1, .int .i64 0] 34)) fun e w' => ∃ S', e = .returned (.tuple #[.agg #[.int .i64 0, .int .i64 0], .int .i64 50]) ∧ C.At w' w.heap.size N 2 [] [(0, 0), (1, 0)] S' ∧ Moved S3 S' (w3.alloc (.cells #[.int .i64 1, .int .i64 0] 34)) w' := C.take_ h3'
  have HT3 := Lib.hid t3
  clear t3 HT2
  go_wp2_with fail
  refine HT3.out.mono ?_
  rintro e w4 ⟨S4, rfl, h4, m4⟩
  have b4 := m4.below b3' lo3
  have lo4 := fun k hk => (C.foot h4 k hk).1
  have x4 := (x3.moved m4).alloc (.cells #[.int .i64 0, .int .i64 0] 34)
  have y4 := (y3.moved m4).alloc (.cells #[.int .i64 0, .int .i64 0] 34)
  have h4' := C.alloc h4 (.cells #[.int .i64 0, .int .i64 0] 34)
  have b4' := b4.alloc b4.size (.cells #[.int .i64 0, .int .i64 0] 34)
  have h5 := C.alloc h4' (.cells #[.int .i64 0, .int .i64 0] 34)
  have b5 := b4'.alloc b4'.size (.cells #[.int .i64 0, .int .i64 0] 34)
  have x5 := x4.alloc (.cells #[.int .i64 0, .int .i64 0] 34)
  have y5 := y4.alloc (.cells #[.int .i64 0, .int .i64 0] 34)
  have up4 := fun k hk => (C.foot h4' k hk).2
  have f5 := C.free_ (some ⟨(w4.alloc (.cells #[.int .i64 0, .int .i64 0] 34)).heap.size, 0, none⟩) 1 [(0, 0)] h5 (rdH_one _ 0 0) (fun ad e h => by injection e with e; have := up4 _ h; rw [← e] at this; exact Nat.lt_irrefl _ this) (Nat.le_refl _) (by decide) (fun z hz => by simp at hz; rcases hz with rfl | rfl <;> exact ⟨by decide, by decide⟩) (one64 ⟨by decide, by decide⟩)
  rw [show (w4.alloc (.cells #[.int .i64 0, .int .i64 0] 34)).heap.size = w4.heap.size + 1 from by simp] at f5
  have HF5 := Lib.hid f5
  obtain ⟨xc0, xc1⟩ := x4.cells
  dsimp only at xc0 xc1
  clear f5 HT3 x2 x3 y3 x4 y4
  go_wp2_with fail
  refine HF5.out.mono ?_
  rintro e w6 ⟨S6, m6, hor⟩
  rcases hor with ⟨_, rfl, h6⟩ | ⟨hbad, _, _⟩
  case inr => exact absurd (⟨by simp, by simp⟩ : goodF [(0, 0), (1, 0)] [(0, 0)]) hbad
  have h6 : C.At w6 w.heap.size N 2 [(0, 1)] [(1, 0)] S6 := h6
  have b6 := m6.below b5 lo4
  have lo6 := fun k hk => (C.foot h6 k hk).1
  have x6 := x5.moved m6
  have y6 := y5.moved m6
  have t6 : Calls Try.prog 10 #[.pointer (some ⟨N, 0, none⟩)] w6 fun e w' => ∃ S', e = .returned (.tuple #[.agg #[.int .i64 0, .int .i64 1], .int .i64 0]) ∧ C.At w' w.heap.size N 2 [] [(1, 0), (0, 1)] S' ∧ Moved S6 S' w6 w' := C.take_ h6
  have HT6 := Lib.hid t6
  clear t6 HF5 xc0 xc1 x5 y5
  go_wp2_with fail
  refine HT6.out.mono ?_
  rintro e w7 ⟨S7, rfl, h7, m7⟩
  have b7 := m7.below b6 lo6
  have x7 := (x6.moved m7).alloc (.cells #[.int .i64 0, .int .i64 1] 34)
  have y7 := (y6.moved m7).alloc (.cells #[.int .i64 0, .int .i64 1] 34)
  have z7 := BoxH.new (fun k hk => (C.foot h7 k hk).2) (0, 1)
  have h7' := C.alloc h7 (.cells #[.int .i64 0, .int .i64 1] 34)
  have b7' := b7.alloc b7.size (.cells #[.int .i64 0, .int .i64 1] 34)
  have lv : ∀ W, C.At W w.heap.size N 2 [] [(1, 0), (0, 1)] S7 → Calls Try.prog 19 #[.pointer (some ⟨N, 0, none⟩), .agg #[.int .i64 0, .int .i64 0]] W fun e w' => e = .returned (.bool false) ∧ Below W.heap.size W w' := fun W h => C.live_ (0, 0) ⟨by decide, by decide⟩ h
  have q00 : ∀ W, (binOp .eql 34 (.agg #[.int .i64 0, .int .i64 0]) (.agg #[.int .i64 0, .int .i64 0])).run Try.prog W = .ok (.bool true) W := fun W => eq_hand 0 0 0 0 W
  have q10 : ∀ W, (binOp .eql 34 (.agg #[.int .i64 1, .int .i64 0]) (.agg #[.int .i64 1, .int .i64 0])).run Try.prog W = .ok (.bool true) W := fun W => eq_hand 1 0 1 0 W
  have q01 : ∀ W, (binOp .eql 34 (.agg #[.int .i64 0, .int .i64 1]) (.agg #[.int .i64 0, .int .i64 1])).run Try.prog W = .ok (.bool true) W := fun W => eq_hand 0 1 0 1 W
  clear HT6 x6 y6
  go_wp2_with fail
  refine wp_region_held_drew (S := (fun w' => (w'.cell? { block := w2.heap.size, off := 0 } = some (.int .i64 0) ∧ w'.cell? { block := w2.heap.size, off := 1 } = some (.int .i64 0)) ∧ (w'.cell? { block := w3.heap.size, off := 0 } = some (.int .i64 1) ∧ w'.cell? { block := w3.heap.size, off := 1 } = some (.int .i64 0)) ∧ w'.cell? { block := w7.heap.size, off := 0 } = some (.int .i64 0) ∧ w'.cell? { block := w7.heap.size, off := 1 } = some (.int .i64 1))) (by kernel_rfl) ⟨x7.cells, y7.cells, z7.cells⟩ (fun hHeld => ?_)
  refine wpAnyH_take (i := 0) (v := ?_) (by simp only [List.getElem?_toArray, List.getElem?_cons_zero]; rfl) (by kernel_rfl) (by kernel_rfl) (by kernel_rfl) (by exact fun _ _ _ h => h) (Or.inl ⟨by rfl, ?_⟩) (by assumption) ?_
  rotate_left
  · intro w hSw; (try dsimp only at hSw); go_simp; (try with_reducible rfl)
  try simp only [Act.put, List.setIfInBounds_toArray, List.set_cons_zero, List.set_cons_succ]
  refine wpAnyH_ready (rs := [1]) (by kernel_rfl) (by simp) ?_
  refine AllReadyH.cons (by simp only [List.getElem?_toArray, List.getElem?_cons_zero, List.getElem?_cons_succ]; rfl) (fun K hK => ?_) AllReadyH.nil
  go_simp
  refine (handle_any 0 0 _).mono ?_
  rintro e y1 ⟨rfl, e1⟩
  have g1 : Below (w7.alloc (.cells #[.int .i64 0, .int .i64 1] 34)).heap.size (w7.alloc (.cells #[.int .i64 0, .int .i64 1] 34)) y1 := (Below.refl _ (w7.alloc (.cells #[.int .i64 0, .int .i64 1] 34))).drew.trans e1
  unfold handV
  go_wp2_with fail
  refine hK.out _ _ (⟨(x7.below g1).cells, (y7.below g1).cells, (z7.below g1).cells⟩) (fun hHeld => ?_)
  clear hK K
  try simp only [Act.put, List.setIfInBounds_toArray, List.set_cons_zero, List.set_cons_succ]
  refine wpAnyH_take (i := 2) (v := ?_) (by simp only [List.getElem?_toArray, List.getElem?_cons_zero, List.getElem?_cons_succ]; rfl) (by kernel_rfl) (by kernel_rfl) (by kernel_rfl) (by exact fun _ _ _ h => h) (Or.inl ⟨by rfl, ?_⟩) (by assumption) ?_
  rotate_left
  · intro w hSw; (try dsimp only at hSw); go_simp; (try with_reducible rfl)
  try simp only [Act.put, List.setIfInBounds_toArray, List.set_cons_zero, List.set_cons_succ]
  refine wpAnyH_take (i := 3) (v := ?_) (by simp only [List.getElem?_toArray, List.getElem?_cons_zero, List.getElem?_cons_succ]; rfl) (by kernel_rfl) (by kernel_rfl) (by kernel_rfl) (by exact fun _ _ _ h => h) (Or.inl ⟨by rfl, ?_⟩) (by assumption) ?_
  rotate_left
  · intro w hSw; (try dsimp only at hSw); go_simp; (try with_reducible rfl)
  try simp only [Act.put, List.setIfInBounds_toArray, List.set_cons_zero, List.set_cons_succ]
  refine wpAnyH_take (i := 4) (v := ?_) (by simp only [List.getElem?_toArray, List.getElem?_cons_zero, List.getElem?_cons_succ]; rfl) (by kernel_rfl) (by kernel_rfl) (by kernel_rfl) (by exact fun _ _ _ h => h) (Or.inl ⟨by rfl, ?_⟩) (by assumption) ?_
  rotate_left
  · intro w hSw; (try dsimp only at hSw); go_simp; (try with_reducible rfl)
  try simp only [Act.put, List.setIfInBounds_toArray, List.set_cons_zero, List.set_cons_succ]
  refine wpAnyH_ready (rs := [5]) (by kernel_rfl) (by simp) ?_
  refine AllReadyH.cons (by simp only [List.getElem?_toArray, List.getElem?_cons_zero, List.getElem?_cons_succ]; rfl) (fun K hK => ?_) AllReadyH.nil
  go_simp
  refine (handle_any 1 0 _).mono ?_
  rintro e y2 ⟨rfl, e2⟩
  have g2 : Below (w7.alloc (.cells #[.int .i64 0, .int .i64 1] 34)).heap.size (w7.alloc (.cells #[.int .i64 0, .int .i64 1] 34)) y2 := g1.trans (e2.mono g1.size)
  unfold handV
  go_wp2_with fail
  refine hK.out _ _ (⟨(x7.below g2).cells, (y7.below g2).cells, (z7.below g2).cells⟩) (fun hHeld => ?_)
  clear hK K
  try simp only [Act.put, List.setIfInBounds_toArray, List.set_cons_zero, List.set_cons_succ]
  refine wpAnyH_take (i := 6) (v := ?_) (by simp only [List.getElem?_toArray, List.getElem?_cons_zero, List.getElem?_cons_succ]; rfl) (by kernel_rfl) (by kernel_rfl) (by kernel_rfl) (by exact fun _ _ _ h => h) (Or.inl ⟨by rfl, ?_⟩) (by assumption) ?_
  rotate_left
  · intro w hSw; (try dsimp only at hSw); go_simp; (try with_reducible rfl)
  try simp only [Act.put, List.setIfInBounds_toArray, List.set_cons_zero, List.set_cons_succ]
  refine wpAnyH_take (i := 7) (v := ?_) (by simp only [List.getElem?_toArray, List.getElem?_cons_zero, List.getElem?_cons_succ]; rfl) (by kernel_rfl) (by kernel_rfl) (by kernel_rfl) (by exact fun _ _ _ h => h) (Or.inl ⟨by rfl, ?_⟩) (by assumption) ?_
  rotate_left
  · intro w hSw; (try dsimp only at hSw); go_simp; (try with_reducible rfl)
  try simp only [Act.put, List.setIfInBounds_toArray, List.set_cons_zero, List.set_cons_succ]
  refine wpAnyH_take (i := 8) (v := ?_) (by simp only [List.getElem?_toArray, List.getElem?_cons_zero, List.getElem?_cons_succ]; rfl) (by kernel_rfl) (by kernel_rfl) (by kernel_rfl) (by exact fun _ _ _ h => h) (Or.inl ⟨by rfl, ?_⟩) (by assumption) ?_
  rotate_left
  · intro w hSw; (try dsimp only at hSw); go_simp; (try with_reducible rfl)
  try simp only [Act.put, List.setIfInBounds_toArray, List.set_cons_zero, List.set_cons_succ]
  refine wpAnyH_take (i := 9) (v := ?_) (by simp only [List.getElem?_toArray, List.getElem?_cons_zero, List.getElem?_cons_succ]; rfl) (by kernel_rfl) (by kernel_rfl) (by kernel_rfl) (by exact fun _ _ _ h => h) (Or.inl ⟨by rfl, ?_⟩) (by assumption) ?_
  rotate_left
  · intro w hSw; (try dsimp only at hSw); go_simp; (try with_reducible rfl)
  try simp only [Act.put, List.setIfInBounds_toArray, List.set_cons_zero, List.set_cons_succ]
  refine wpAnyH_take (i := 10) (v := ?_) (by simp only [List.getElem?_toArray, List.getElem?_cons_zero, List.getElem?_cons_succ]; rfl) (by kernel_rfl) (by kernel_rfl) (by kernel_rfl) (by exact fun _ _ _ h => h) (Or.inl ⟨by rfl, ?_⟩) (by assumption) ?_
  rotate_left
  · intro w hSw; (try dsimp only at hSw); go_simp; (try with_reducible rfl)
  try simp only [Act.put, List.setIfInBounds_toArray, List.set_cons_zero, List.set_cons_succ]
  refine wpAnyH_take (i := 11) (v := ?_) (by simp only [List.getElem?_toArray, List.getElem?_cons_zero, List.getElem?_cons_succ]; rfl) (by kernel_rfl) (by kernel_rfl) (by kernel_rfl) (by exact fun _ _ _ h => h) (Or.inl ⟨by rfl, ?_⟩) (by assumption) ?_
  rotate_left
  · intro w hSw; (try dsimp only at hSw); go_simp; (try with_reducible rfl)
  try simp only [Act.put, List.setIfInBounds_toArray, List.set_cons_zero, List.set_cons_succ]
  refine wpAnyH_take (i := 12) (v := ?_) (by simp only [List.getElem?_toArray, List.getElem?_cons_zero, List.getElem?_cons_succ]; rfl) (by kernel_rfl) (by kernel_rfl) (by kernel_rfl) (by exact fun _ _ _ h => h) (Or.inl ⟨by rfl, ?_⟩) (by assumption) ?_
  rotate_left
  · intro w hSw; (try dsimp only at hSw); go_simp; (try with_reducible rfl)
  try simp only [Act.put, List.setIfInBounds_toArray, List.set_cons_zero, List.set_cons_succ]
  refine wpAnyH_take (i := 13) (v := ?_) (by simp only [List.getElem?_toArray, List.getElem?_cons_zero, List.getElem?_cons_succ]; rfl) (by kernel_rfl) (by kernel_rfl) (by kernel_rfl) (by exact fun _ _ _ h => h) (Or.inl ⟨by rfl, ?_⟩) (by assumption) ?_
  rotate_left
  · intro w hSw; (try dsimp only at hSw); go_simp; (try with_reducible rfl)
  try simp only [Act.put, List.setIfInBounds_toArray, List.set_cons_zero, List.set_cons_succ]
  refine wpAnyH_take (i := 14) (v := ?_) (by simp only [List.getElem?_toArray, List.getElem?_cons_zero, List.getElem?_cons_succ]; rfl) (by kernel_rfl) (by kernel_rfl) (by kernel_rfl) (by exact fun _ _ _ h => h) (Or.inl ⟨by rfl, ?_⟩) (by assumption) ?_
  rotate_left
  · intro w hSw; (try dsimp only at hSw); go_simp; (try with_reducible rfl)
  try simp only [Act.put, List.setIfInBounds_toArray, List.set_cons_zero, List.set_cons_succ]
  refine wpAnyH_take (i := 15) (v := ?_) (by simp only [List.getElem?_toArray, List.getElem?_cons_zero, List.getElem?_cons_succ]; rfl) (by kernel_rfl) (by kernel_rfl) (by kernel_rfl) (by exact fun _ _ _ h => h) (Or.inl ⟨by rfl, ?_⟩) (by assumption) ?_
  rotate_left
  · intro w hSw; (try dsimp only at hSw); go_simp; (try with_reducible rfl)
  try simp only [Act.put, List.setIfInBounds_toArray, List.set_cons_zero, List.set_cons_succ]
  refine wpAnyH_take (i := 16) (v := ?_) (by simp only [List.getElem?_toArray, List.getElem?_cons_zero, List.getElem?_cons_succ]; rfl) (by kernel_rfl) (by kernel_rfl) (by kernel_rfl) (by exact fun _ _ _ h => h) (Or.inl ⟨by rfl, ?_⟩) (by assumption) ?_
  rotate_left
  · intro w hSw; (try dsimp only at hSw); go_simp; (try with_reducible rfl)
  try simp only [Act.put, List.setIfInBounds_toArray, List.set_cons_zero, List.set_cons_succ]
  refine wpAnyH_take (i := 17) (v := ?_) (by simp only [List.getElem?_toArray, List.getElem?_cons_zero, List.getElem?_cons_succ]; rfl) (by kernel_rfl) (by kernel_rfl) (by kernel_rfl) (by exact fun _ _ _ h => h) (Or.inl ⟨by rfl, ?_⟩) (by assumption) ?_
  rotate_left
  · intro w hSw; (try dsimp only at hSw); go_simp; (try with_reducible rfl)
  try simp only [Act.put, List.setIfInBounds_toArray, List.set_cons_zero, List.set_cons_succ]
  refine wpAnyH_ready (rs := [18]) (by kernel_rfl) (by simp) ?_
  refine AllReadyH.cons (by simp only [List.getElem?_toArray, List.getElem?_cons_zero, List.getElem?_cons_succ]; rfl) (fun K hK => ?_) AllReadyH.nil
  go_simp
  refine (handle_any 0 1 _).mono ?_
  rintro e y3 ⟨rfl, e3⟩
  have g3 : Below (w7.alloc (.cells #[.int .i64 0, .int .i64 1] 34)).heap.size (w7.alloc (.cells #[.int .i64 0, .int .i64 1] 34)) y3 := g2.trans (e3.mono g2.size)
  unfold handV
  go_wp2_with fail
  refine hK.out _ _ (⟨(x7.below g3).cells, (y7.below g3).cells, (z7.below g3).cells⟩) (fun hHeld => ?_)
  clear hK K
  try simp only [Act.put, List.setIfInBounds_toArray, List.set_cons_zero, List.set_cons_succ]
  refine wpAnyH_take (i := 19) (v := ?_) (by simp only [List.getElem?_toArray, List.getElem?_cons_zero, List.getElem?_cons_succ]; rfl) (by kernel_rfl) (by kernel_rfl) (by kernel_rfl) (by exact fun _ _ _ h => h) (Or.inl ⟨by rfl, ?_⟩) (by assumption) ?_
  rotate_left
  · intro w hSw; (try dsimp only at hSw); go_simp; (try with_reducible rfl)
  try simp only [Act.put, List.setIfInBounds_toArray, List.set_cons_zero, List.set_cons_succ]
  refine wpAnyH_take (i := 20) (v := ?_) (by simp only [List.getElem?_toArray, List.getElem?_cons_zero, List.getElem?_cons_succ]; rfl) (by kernel_rfl) (by kernel_rfl) (by kernel_rfl) (by exact fun _ _ _ h => h) (Or.inl ⟨by rfl, ?_⟩) (by assumption) ?_
  rotate_left
  · intro w hSw; (try dsimp only at hSw); go_simp; (try with_reducible rfl)
  try simp only [Act.put, List.setIfInBounds_toArray, List.set_cons_zero, List.set_cons_succ]
  refine wpAnyH_take (i := 21) (v := ?_) (by simp only [List.getElem?_toArray, List.getElem?_cons_zero, List.getElem?_cons_succ]; rfl) (by kernel_rfl) (by kernel_rfl) (by kernel_rfl) (by exact fun _ _ _ h => h) (Or.inl ⟨by rfl, ?_⟩) (by assumption) ?_
  rotate_left
  · intro w hSw; (try dsimp only at hSw); go_simp; (try with_reducible rfl)
  try simp only [Act.put, List.setIfInBounds_toArray, List.set_cons_zero, List.set_cons_succ]
  refine wpAnyH_take (i := 22) (v := ?_) (by simp only [List.getElem?_toArray, List.getElem?_cons_zero, List.getElem?_cons_succ]; rfl) (by kernel_rfl) (by kernel_rfl) (by kernel_rfl) (by exact fun _ _ _ h => h) (Or.inl ⟨by rfl, ?_⟩) (by assumption) ?_
  rotate_left
  · intro w hSw; (try dsimp only at hSw); go_simp; (try with_reducible rfl)
  try simp only [Act.put, List.setIfInBounds_toArray, List.set_cons_zero, List.set_cons_succ]
  refine wpAnyH_take (i := 23) (v := ?_) (by simp only [List.getElem?_toArray, List.getElem?_cons_zero, List.getElem?_cons_succ]; rfl) (by kernel_rfl) (by kernel_rfl) (by kernel_rfl) (by exact fun _ _ _ h => h) (Or.inl ⟨by rfl, ?_⟩) (by assumption) ?_
  rotate_left
  · intro w hSw; (try dsimp only at hSw); go_simp; (try with_reducible rfl)
  try simp only [Act.put, List.setIfInBounds_toArray, List.set_cons_zero, List.set_cons_succ]
  refine wpAnyH_ready (rs := [24]) (by kernel_rfl) (by simp) ?_
  refine AllReadyH.cons (by simp only [List.getElem?_toArray, List.getElem?_cons_zero, List.getElem?_cons_succ]; rfl) (fun K hK => ?_) AllReadyH.nil
  go_simp
  refine (lv y3 (C.below h7' g3)).mono ?_
  rintro e y4 ⟨rfl, e4⟩
  have g4 : Below (w7.alloc (.cells #[.int .i64 0, .int .i64 1] 34)).heap.size (w7.alloc (.cells #[.int .i64 0, .int .i64 1] 34)) y4 := g3.trans (e4.mono g3.size)
  go_wp2_with fail
  refine hK.out _ _ (⟨(x7.below g4).cells, (y7.below g4).cells, (z7.below g4).cells⟩) (fun hHeld => ?_)
  clear hK K
  try simp only [Act.put, List.setIfInBounds_toArray, List.set_cons_zero, List.set_cons_succ]
  refine wpAnyH_take (i := 25) (v := ?_) (by simp only [List.getElem?_toArray, List.getElem?_cons_zero, List.getElem?_cons_succ]; rfl) (by kernel_rfl) (by kernel_rfl) (by kernel_rfl) (by exact fun _ _ _ h => h) (Or.inl ⟨by rfl, ?_⟩) (by assumption) ?_
  rotate_left
  · intro w hSw; (try dsimp only at hSw); go_simp; (try with_reducible rfl)
  try simp only [Act.put, List.setIfInBounds_toArray, List.set_cons_zero, List.set_cons_succ]
  refine wpAnyH_take (i := 26) (v := ?_) (by simp only [List.getElem?_toArray, List.getElem?_cons_zero, List.getElem?_cons_succ]; rfl) (by kernel_rfl) (by kernel_rfl) (by kernel_rfl) (by exact fun _ _ _ h => h) (Or.inl ⟨by rfl, ?_⟩) (by assumption) ?_
  rotate_left
  · intro w hSw; (try dsimp only at hSw); go_simp; (try with_reducible rfl)
  try simp only [Act.put, List.setIfInBounds_toArray, List.set_cons_zero, List.set_cons_succ]
  refine wpAnyH_take (i := 27) (v := ?_) (by simp only [List.getElem?_toArray, List.getElem?_cons_zero, List.getElem?_cons_succ]; rfl) (by kernel_rfl) (by kernel_rfl) (by kernel_rfl) (by exact fun _ _ _ h => h) (Or.inl ⟨by rfl, ?_⟩) (by assumption) ?_
  rotate_left
  · intro w hSw; (try dsimp only at hSw); go_simp; (try with_reducible rfl)
  try simp only [Act.put, List.setIfInBounds_toArray, List.set_cons_zero]
  refine wpAnyH_done (by kernel_rfl) ?_ _
  go_wp2_with fail
  go_ret
  exact ⟨rfl, b7'.trans (g4.mono b7'.size)⟩
end Go.Proofs.Ytomcpjgklecopaa
