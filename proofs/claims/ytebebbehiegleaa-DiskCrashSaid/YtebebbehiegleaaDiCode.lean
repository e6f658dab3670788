/- The landed disk: what it is in memory; its calls. -/
import Derived.Test.YtebebbehiegleaaDiSpec
import Derived.Lib.SliceRun
set_option linter.unusedVariables false
namespace Go.Proofs.Ytebebbehiegleaa
open Go Go.RowKit

/-- The landed disk: a room, a row of bytes, how many are safe. -/
structure CodeD (w : World) (B N n : Nat) (vB : Value) (bs : List UInt8) (sf : Nat) : Prop where
  cell : w.heap[N]? = some (.cells #[.int .i64 (n : Nat), vB, .int .i64 (sf : Nat)] 48 (0, 0))
  hB : B ≤ N
  row : layB.Row 5 w B vB bs.length bs
  nN : vB.ownBlock ≠ some N
def footD (N : Nat) (vB : Value) : Nat → Prop := fun k => k = N ∨ vB.ownBlock = some k
section
variable {w w' : World} {B N n : Nat} {vB : Value} {bs : List UInt8} {sf : Nat}
theorem CodeD.lt (h : CodeD w B N n vB bs sf) : N < w.heap.size := (Array.getElem?_eq_some_iff.1 h.cell).1
theorem CodeD.foot_lt (h : CodeD w B N n vB bs sf) : ∀ k, footD N vB k → B ≤ k ∧ k < w.heap.size := by
  intro k hk
  rcases hk with rfl | hk
  · exact ⟨h.hB, h.lt⟩
  · exact h.row.lt k hk
theorem CodeD.only {S : Nat → Prop} (h : CodeD w B N n vB bs sf) (ho : Only S w w') (hS : ∀ k, footD N vB k → ¬ S k) : CodeD w' B N n vB bs sf :=
  ⟨(ho.block N h.lt (hS N (.inl rfl))).trans h.cell, h.hB, h.row.only ho (fun g hg => hS g (.inr hg)), h.nN⟩
theorem CodeD.below (h : CodeD w B N n vB bs sf) (hb : Below w.heap.size w w') : CodeD w' B N n vB bs sf := h.only (S := NoB) (Below.only hb) (fun _ _ h => h)
theorem CodeD.alloc (h : CodeD w B N n vB bs sf) (o : Obj) : CodeD (w.alloc o) B N n vB bs sf := h.only (S := NoB) ((Only.refl _ w).alloc o) (fun _ _ h => h)
theorem CodeD.drew (h : CodeD w B N n vB bs sf) : CodeD w.drew B N n vB bs sf := h.only (S := NoB) ((Only.refl _ w).drew) (fun _ _ h => h)
theorem CodeD.cells (h : CodeD w B N n vB bs sf) : w.cell? { block := N, off := 0 } = some (.int .i64 (n : Nat)) ∧ w.cell? { block := N, off := 1 } = some vB ∧ w.cell? { block := N, off := 2 } = some (.int .i64 (sf : Nat)) := by
  have hc := h.cell
  refine ⟨?_, ?_, ?_⟩
  · rw [cell_of_row w N 0 _ _ (0, 0) hc]; rfl
  · rw [cell_of_row w N 1 _ _ (0, 0) hc]; rfl
  · rw [cell_of_row w N 2 _ _ (0, 0) hc]; rfl
theorem CodeD.frozen (h : CodeD w B N n vB bs sf) (j : Nat) : w.frozen? { block := N, off := j } = false := frozen_of_row w N _ _ _ h.cell
/-- The bytes' slice was written. -/
theorem CodeD.setB {vB' : Value} {bs' : List UInt8} (h : CodeD w B N n vB bs sf) (hr : layB.Row 5 w B vB' bs'.length bs') (nN : vB'.ownBlock ≠ some N) : CodeD (w.setCell { block := N, off := 1 } vB') B N n vB' bs' sf := by
  have ho : Only (fun k => k = N) w (w.setCell { block := N, off := 1 } vB') := Only.setCell (S := fun k => k = N) (p := { block := N, off := 1 }) (Only.refl _ w) (.inl rfl) vB'
  exact ⟨heap_setCell_same w N 1 _ _ vB' h.cell, h.hB, hr.only ho (fun g hg e => nN (by rw [hg, e])), nN⟩
theorem CodeD.setS {sf' : Nat} (h : CodeD w B N n vB bs sf) : CodeD (w.setCell { block := N, off := 2 } (.int .i64 (sf' : Nat))) B N n vB bs sf' := by
  have ho : Only (fun k => k = N) w (w.setCell { block := N, off := 2 } (.int .i64 (sf' : Nat))) := Only.setCell (S := fun k => k = N) (p := { block := N, off := 2 }) (Only.refl _ w) (.inl rfl) _
  exact ⟨heap_setCell_same w N 2 _ _ _ h.cell, h.hB, h.row.only ho (fun g hg e => h.nN (by rw [hg, e])), h.nN⟩
/-- Behind an append to the bytes, and its store. -/
theorem CodeD.growB {w4 : World} {v4 : Value} {bs' : List UInt8} (h : CodeD w B N n vB bs sf) (g4 : w.grownBy w4 vB.ownBlock) (r4 : layB.Row 5 w4 B v4 bs'.length bs') (l4 : ∀ k, v4.ownBlock = some k → vB.ownBlock = some k ∨ k = w.heap.size) :
    CodeD (w4.setCell { block := N, off := 1 } v4) B N n v4 bs' sf := by
  have hN := h.lt
  have h4 : w4.heap[N]? = some (.cells #[.int .i64 (n : Nat), vB, .int .i64 (sf : Nat)] 48 (0, 0)) := (g4.block N hN (fun e => h.nN e.symm)).trans h.cell
  have nN : v4.ownBlock ≠ some N := fun e => by
    rcases l4 N e with h1 | h1
    · exact h.nN h1
    · omega
  have ho : Only (fun k => k = N) w4 (w4.setCell { block := N, off := 1 } v4) := Only.setCell (S := fun k => k = N) (p := { block := N, off := 1 }) (Only.refl _ w4) (.inl rfl) v4
  exact ⟨heap_setCell_same w4 N 1 _ _ v4 h4, h.hB, r4.only ho (fun g hg e => nN (by rw [hg, e])), nN⟩
/-- Cut to its first bytes. -/
theorem CodeD.cut {A : Option Addr} {c m : Nat} (h : CodeD w B N n (.slice A bs.length c) bs sf) (hm : m ≤ bs.length) (hA : A = none → bs = [] ∧ c = 0) : CodeD (w.setCell { block := N, off := 1 } (.slice A m c)) B N n (.slice A m c) (bs.take m) sf := by
  have hl : (bs.take m).length = m := by rw [List.length_take, Nat.min_eq_left hm]
  refine h.setB (by rw [hl]; exact h.row.shrink hm (fun e => ⟨by have := (hA e).1; subst this; simpa using hm, (hA e).2⟩)) ?_
  have := h.nN
  cases A <;> exact this
end
set_option maxHeartbeats 4000000 in
set_option maxRecDepth 100000 in
theorem codeLen {w : World} {B N n : Nat} {vB : Value} {bs : List UInt8} {sf : Nat} (h : CodeD w B N n vB bs sf) : Calls Try.prog 17 #[.pointer (some ⟨N, 0, none⟩)] w fun e w' => e = .returned (.int .i64 (bs.length : Nat)) ∧ w = w' := by
  obtain ⟨c0, c1, c2⟩ := h.cells
  obtain ⟨A, c, rfl, hcap, hrd, _, _⟩ := h.row.rd
  clear h hrd
  go_enter Try.func17, Try.ntmps17
  go_wp2_with fail
  exact bodyPost_ret (v := .int .i64 (bs.length : Nat)) (by simp [results, Try.results17, go_sem]) rfl ⟨rfl, rfl⟩
set_option maxHeartbeats 4000000 in
set_option maxRecDepth 100000 in
theorem codeSafe {w : World} {B N n : Nat} {vB : Value} {bs : List UInt8} {sf : Nat} (h : CodeD w B N n vB bs sf) : Calls Try.prog 18 #[.pointer (some ⟨N, 0, none⟩)] w fun e w' => e = .returned (.int .i64 (sf : Nat)) ∧ w = w' := by
  obtain ⟨c0, c1, c2⟩ := h.cells
  clear h
  go_enter Try.func18, Try.ntmps18
  go_wp2_with fail
  exact bodyPost_ret (v := .int .i64 (sf : Nat)) (by simp [results, Try.results18, go_sem]) rfl ⟨rfl, rfl⟩
set_option maxHeartbeats 4000000 in
set_option maxRecDepth 100000 in
theorem codeLeft {w : World} {B N n : Nat} {vB : Value} {bs : List UInt8} {sf : Nat} (h : CodeD w B N n vB bs sf) (hn : bs.length ≤ n) (hr : n ≤ 1073741824) : Calls Try.prog 19 #[.pointer (some ⟨N, 0, none⟩)] w fun e w' => e = .returned (.int .i64 ((n - bs.length : Nat) : Int)) ∧ Below w.heap.size w w' := by
  have hb : Below w.heap.size w w.drew := (Below.refl _ _).drew
  obtain ⟨c0, c1, c2⟩ := h.drew.cells
  obtain ⟨A, c, rfl, hcap, hrd, _, _⟩ := h.row.rd
  have hw1 : IntKind.i64.wrap ((n : Int) - (bs.length : Int)) = ((n - bs.length : Nat) : Int) := by rw [IntWalk.i64_in _ (by omega)]; omega
  clear h hrd
  go_enter Try.func19, Try.ntmps19
  go_wp2_with fail
  refine wp_region_held_drew (S := (fun w' => w'.cell? { block := N, off := 0 } = some (.int .i64 (n : Nat)) ∧ w'.cell? { block := N, off := 1 } = some (.slice A bs.length c))) (by kernel_rfl) ⟨c0, c1⟩ (fun hHeld => ?_)
  refine wpAnyH_take (i := 0) (v := ?_) (by simp only [List.getElem?_toArray, List.getElem?_cons_zero]; rfl) (by kernel_rfl) (by kernel_rfl) (by kernel_rfl) (by exact fun _ _ _ h => h) (Or.inl ⟨by rfl, ?_⟩) (by assumption) ?_
  rotate_left
  · intro w hSw; (try dsimp only at hSw); go_simp; (try with_reducible rfl)
  try simp only [Act.put, List.setIfInBounds_toArray, List.set_cons_zero, List.set_cons_succ]
  refine wpAnyH_take (i := 1) (v := ?_) (by simp only [List.getElem?_toArray, List.getElem?_cons_zero, List.getElem?_cons_succ]; rfl) (by kernel_rfl) (by kernel_rfl) (by kernel_rfl) (by exact fun _ _ _ h => h) (Or.inl ⟨by rfl, ?_⟩) (by assumption) ?_
  rotate_left
  · intro w hSw; (try dsimp only at hSw); go_simp; (try with_reducible rfl)
  try simp only [Act.put, List.setIfInBounds_toArray, List.set_cons_zero, List.set_cons_succ]
  refine wpAnyH_take (i := 2) (v := ?_) (by simp only [List.getElem?_toArray, List.getElem?_cons_zero, List.getElem?_cons_succ]; rfl) (by kernel_rfl) (by kernel_rfl) (by kernel_rfl) (by exact fun _ _ _ h => h) (Or.inl ⟨by rfl, ?_⟩) (by assumption) ?_
  rotate_left
  · intro w hSw; (try dsimp only at hSw); go_simp; (try with_reducible rfl)
  try simp only [Act.put, List.setIfInBounds_toArray, List.set_cons_zero, List.set_cons_succ]
  refine wpAnyH_take (i := 3) (v := ?_) (by simp only [List.getElem?_toArray, List.getElem?_cons_zero, List.getElem?_cons_succ]; rfl) (by kernel_rfl) (by kernel_rfl) (by kernel_rfl) (by exact fun _ _ _ h => h) (Or.inl ⟨by rfl, ?_⟩) (by assumption) ?_
  rotate_left
  · intro w hSw; (try dsimp only at hSw); go_simp; (try with_reducible rfl)
  try simp only [Act.put, List.setIfInBounds_toArray, List.set_cons_zero, List.set_cons_succ]
  refine wpAnyH_take (i := 4) (v := ?_) (by simp only [List.getElem?_toArray, List.getElem?_cons_zero, List.getElem?_cons_succ]; rfl) (by kernel_rfl) (by kernel_rfl) (by kernel_rfl) (by exact fun _ _ _ h => h) (Or.inl ⟨by rfl, ?_⟩) (by assumption) ?_
  rotate_left
  · intro w hSw; (try dsimp only at hSw); go_simp; (try with_reducible rfl)
  try simp only [Act.put, List.setIfInBounds_toArray, List.set_cons_zero, List.set_cons_succ]
  refine wpAnyH_take (i := 5) (v := ?_) (by simp only [List.getElem?_toArray, List.getElem?_cons_zero, List.getElem?_cons_succ]; rfl) (by kernel_rfl) (by kernel_rfl) (by kernel_rfl) (by exact fun _ _ _ h => h) (Or.inl ⟨by rfl, ?_⟩) (by assumption) ?_
  rotate_left
  · intro w hSw; (try dsimp only at hSw); go_simp; (try with_reducible rfl)
  try simp only [Act.put, List.setIfInBounds_toArray, List.set_cons_zero, List.set_cons_succ]
  refine wpAnyH_take (i := 6) (v := ?_) (by simp only [List.getElem?_toArray, List.getElem?_cons_zero, List.getElem?_cons_succ]; rfl) (by kernel_rfl) (by kernel_rfl) (by kernel_rfl) (by exact fun _ _ _ h => h) (Or.inl ⟨by rfl, ?_⟩) (by assumption) ?_
  rotate_left
  · intro w hSw; (try dsimp only at hSw); go_simp; (try with_reducible rfl)
  try simp only [Act.put, List.setIfInBounds_toArray, List.set_cons_zero, List.set_cons_succ]
  refine wpAnyH_take (i := 7) (v := ?_) (by simp only [List.getElem?_toArray, List.getElem?_cons_zero, List.getElem?_cons_succ]; rfl) (by kernel_rfl) (by kernel_rfl) (by kernel_rfl) (by exact fun _ _ _ h => h) (Or.inl ⟨by rfl, ?_⟩) (by assumption) ?_
  rotate_left
  · intro w hSw; (try dsimp only at hSw); go_simp; (try with_reducible rfl)
  try simp only [Act.put, List.setIfInBounds_toArray, List.set_cons_zero, List.set_cons_succ]
  refine wpAnyH_take (i := 8) (v := ?_) (by simp only [List.getElem?_toArray, List.getElem?_cons_zero, List.getElem?_cons_succ]; rfl) (by kernel_rfl) (by kernel_rfl) (by kernel_rfl) (by exact fun _ _ _ h => h) (Or.inl ⟨by rfl, ?_⟩) (by assumption) ?_
  rotate_left
  · intro w hSw; (try dsimp only at hSw); go_simp; (try with_reducible rfl)
  try simp only [Act.put, List.setIfInBounds_toArray, List.set_cons_zero, List.set_cons_succ]
  refine wpAnyH_take (i := 9) (v := ?_) (by simp only [List.getElem?_toArray, List.getElem?_cons_zero, List.getElem?_cons_succ]; rfl) (by kernel_rfl) (by kernel_rfl) (by kernel_rfl) (by exact fun _ _ _ h => h) (Or.inl ⟨by rfl, ?_⟩) (by assumption) ?_
  rotate_left
  · intro w hSw; (try dsimp only at hSw); go_simp; (try with_reducible rfl)
  try simp only [Act.put, List.setIfInBounds_toArray, List.set_cons_zero, List.set_cons_succ]
  refine wpAnyH_take (i := 10) (v := ?_) (by simp only [List.getElem?_toArray, List.getElem?_cons_zero, List.getElem?_cons_succ]; rfl) (by kernel_rfl) (by kernel_rfl) (by kernel_rfl) (by exact fun _ _ _ h => h) (Or.inl ⟨by rfl, ?_⟩) (by assumption) ?_
  rotate_left
  · intro w hSw; (try dsimp only at hSw); go_simp; (try with_reducible rfl)
  try simp only [Act.put, List.setIfInBounds_toArray, List.set_cons_zero, List.set_cons_succ]
  refine wpAnyH_done (by kernel_rfl) ?_ _
  go_wp2_with fail
  exact bodyPost_ret (v := .int .i64 ((n - bs.length : Nat) : Int)) (by simp [results, Try.results19, go_sem]) rfl ⟨rfl, hb⟩
set_option maxHeartbeats 4000000 in
set_option maxRecDepth 100000 in
theorem codeNewBad (n : Int) (w : World) (hn : n < 0 ∨ 1073741824 < n) : Calls Try.prog 8 #[.int .i64 n] w fun e w' => e = .returned (.tuple #[.pointer none, .int .i64 2]) ∧ Below w.heap.size w w' := by
  go_enter Try.func8, Try.ntmps8
  by_cases h0 : n < 0
  · go_wp2_with fail
    exact bodyPost_ret (v := .tuple #[.pointer none, .int .i64 2]) (by simp [results, Try.results8, go_sem]) rfl ⟨rfl, Below.refl _ _⟩
  · have h1 : 1073741824 < n := by omega
    go_wp2_with fail
    exact bodyPost_ret (v := .tuple #[.pointer none, .int .i64 2]) (by simp [results, Try.results8, go_sem]) rfl ⟨rfl, Below.refl _ _⟩
set_option maxHeartbeats 4000000 in
set_option maxRecDepth 100000 in
theorem codeNew (n : Nat) (w : World) (hn : n ≤ 1073741824) : Calls Try.prog 8 #[.int .i64 (n : Nat)] w fun e w' => e = .returned (.tuple #[.pointer (some ⟨w.heap.size, 0, none⟩), .int .i64 0]) ∧ CodeD w' w.heap.size w.heap.size n (.slice none 0 0) [] 0 ∧ Below w.heap.size w w' := by
  have h0 : ¬ ((n : Int) < 0) := by omega
  have h1 : ¬ (1073741824 < (n : Int)) := by omega
  have hb : Below w.heap.size w (w.alloc (.cells #[.int .i64 (n : Nat), .slice none 0 0, .int .i64 0] 48)) := (Below.refl _ _).alloc (Nat.le_refl _) _
  have hC : CodeD (w.alloc (.cells #[.int .i64 (n : Nat), .slice none 0 0, .int .i64 0] 48)) w.heap.size w.heap.size n (.slice none 0 0) [] 0 := by
    refine ⟨?_, Nat.le_refl _, LayG.Row.nil _ _, (fun e => by cases e)⟩
    have := heap_alloc_new w (.cells #[.int .i64 (n : Nat), .slice none 0 0, .int .i64 0] 48)
    simpa using this
  have HB := Lib.hid hb
  have HC := Lib.hid hC
  have hbuild := run_build (P := Try.prog) w 48 #[(0, .int .i64 (n : Nat))] #[.int .i64 (n : Nat), .slice none 0 0, .int .i64 0] (by kernel_rfl)
  clear hb hC
  go_enter Try.func8, Try.ntmps8
  go_wp2_with fail
  exact bodyPost_ret (v := .tuple #[.pointer (some ⟨w.heap.size, 0, none⟩), .int .i64 0]) (by simp [results, Try.results8, go_sem]) rfl ⟨rfl, HC.out, HB.out⟩
set_option maxHeartbeats 4000000 in
set_option maxRecDepth 100000 in
theorem codeFlush {w : World} {B N n : Nat} {vB : Value} {bs : List UInt8} {sf : Nat} (h : CodeD w B N n vB bs sf) : Calls Try.prog 12 #[.pointer (some ⟨N, 0, none⟩)] w fun e w' => e = .returned (.int .i64 (bs.length : Nat)) ∧ CodeD w' B N n vB bs bs.length ∧ Only (fun k => k = N) w w' := by
  have HA := Lib.hid h
  obtain ⟨c0, c1, c2⟩ := h.cells
  obtain ⟨A, c, rfl, hcap, hrd, _, _⟩ := h.row.rd
  have f2 := h.frozen 2
  have hNlt := h.lt
  have ho : Only (fun k => k = N) w (w.setCell { block := N, off := 2 } (.int .i64 (bs.length : Nat))) := Only.setCell (S := fun k => k = N) (p := { block := N, off := 2 }) (Only.refl _ w) (.inl rfl) _
  have d2 := (h.setS (sf' := bs.length)).cells.2.2
  have HO := Lib.hid ho
  clear h hrd ho
  go_enter Try.func12, Try.ntmps12
  go_wp2_with fail
  exact bodyPost_ret (v := .int .i64 (bs.length : Nat)) (by simp [results, Try.results12, go_sem]) rfl ⟨rfl, HA.out.setS, HO.out⟩
set_option maxHeartbeats 4000000 in
set_option maxRecDepth 100000 in
theorem codeCutBad {w : World} {B N n : Nat} {vB : Value} {bs : List UInt8} {sf : Nat} (m : Int) (h : CodeD w B N n vB bs sf) (hm : m < 0 ∨ (bs.length : Int) < m) : Calls Try.prog 14 #[.pointer (some ⟨N, 0, none⟩), .int .i64 m] w fun e w' => e = .returned (.int .i64 2) ∧ w = w' := by
  obtain ⟨c0, c1, c2⟩ := h.cells
  obtain ⟨A, c, rfl, hcap, hrd, _, _⟩ := h.row.rd
  clear h hrd
  by_cases h0 : m < 0
  · go_enter Try.func14, Try.ntmps14
    go_wp2_with fail
    exact bodyPost_ret (v := .int .i64 2) (by simp [results, Try.results14, go_sem]) rfl ⟨rfl, rfl⟩
  · have h1 : (bs.length : Int) < m := by omega
    go_enter Try.func14, Try.ntmps14
    go_wp2_with fail
    exact bodyPost_ret (v := .int .i64 2) (by simp [results, Try.results14, go_sem]) rfl ⟨rfl, rfl⟩
set_option maxHeartbeats 4000000 in
set_option maxRecDepth 100000 in
theorem codeCut {w : World} {B N n : Nat} {vB : Value} {bs : List UInt8} {sf : Nat} (m : Nat) (h : CodeD w B N n vB bs sf) (hm : m ≤ bs.length) (hl : bs.length ≤ 1073741824) : Calls Try.prog 14 #[.pointer (some ⟨N, 0, none⟩), .int .i64 (m : Nat)] w fun e w' => ∃ vB', e = .returned (.int .i64 0) ∧ CodeD w' B N n vB' (bs.take m) m ∧ Only (fun k => k = N) w w' ∧ vB'.ownBlock = vB.ownBlock := by
  obtain ⟨c0, c1, c2⟩ := h.cells
  obtain ⟨A, c, rfl, hcap, hrd, _, hA0⟩ := h.row.rd
  have f1 := h.frozen 1
  have hNlt := h.lt
  have h0 : ¬ ((m : Int) < 0) := by omega
  have h1 : ¬ ((bs.length : Int) < (m : Int)) := by omega
  have hml : (bs.take m).length = m := by rw [List.length_take, Nat.min_eq_left hm]
  have ho : Only (fun k => k = N) w (w.setCell { block := N, off := 1 } (.slice A m c)) := Only.setCell (S := fun k => k = N) (p := { block := N, off := 1 }) (Only.refl _ w) (.inl rfl) _
  have CF := Lib.hid (codeFlush (h.cut hm hA0))
  have HO := Lib.hid ho
  have HML := Lib.hid hml
  have hsl := fun W => slice_toB W A bs.length c m (by omega)
  clear h hrd hA0 ho hml
  go_enter Try.func14, Try.ntmps14
  go_wp2_with fail
  refine (CF.out).mono ?_
  rintro e w' ⟨rfl, hC, ho⟩
  rw [HML.out] at hC
  have HC := Lib.hid hC
  have HO2 := Lib.hid ho
  clear hC ho
  go_wp2_with fail
  exact bodyPost_ret (v := .int .i64 0) (by simp [results, Try.results14, go_sem]) rfl ⟨_, rfl, HC.out, HO.out.trans HO2.out (fun x hx => .inl hx), by cases A <;> rfl⟩
set_option maxHeartbeats 4000000 in
set_option maxRecDepth 100000 in
theorem codeCrash {w : World} {B N n : Nat} {vB : Value} {bs : List UInt8} {sf : Nat} (keep : Int) (m : Nat) (h : CodeD w B N n vB bs sf) (hk : I64 keep) (hs : sf ≤ bs.length) (hl : bs.length ≤ 600000) (hm : m = keepR bs sf keep) : Calls Try.prog 13 #[.pointer (some ⟨N, 0, none⟩), .int .i64 keep] w fun e w' => ∃ vB', e = .returned (.int .i64 (m : Nat)) ∧ CodeD w' B N n vB' (bs.take m) m ∧ Only (fun k => k = N) w w' ∧ vB'.ownBlock = vB.ownBlock := by
  have hm2 : (m : Int) = (sf : Int) + max 0 (min keep ((bs.length : Int) - (sf : Int))) ∧ m ≤ bs.length := by
    unfold keepR at hm
    omega
  clear hm
  obtain ⟨hm2, hmb⟩ := hm2
  obtain ⟨c0, c1, c2⟩ := h.drew.cells
  obtain ⟨d0, d1, d2⟩ := h.drew.drew.cells
  obtain ⟨A, c, rfl, hcap, hrd, _, hA0⟩ := h.row.rd
  have f1 := h.drew.drew.frozen 1
  have hNlt : N < w.drew.drew.heap.size := h.lt
  have hml : (bs.take m).length = m := by rw [List.length_take, Nat.min_eq_left hmb]
  have ho : Only (fun k => k = N) w (w.drew.drew.setCell { block := N, off := 1 } (.slice A m c)) := Only.setCell (S := fun k => k = N) (p := { block := N, off := 1 }) (Only.refl _ w).drew.drew (.inl rfl) _
  have hcut := h.drew.drew.cut hmb hA0
  have CF := Lib.hid (codeFlush hcut)
  have e2 := hcut.cells.2.2
  have HO := Lib.hid ho
  have HML := Lib.hid hml
  have hsl := fun W => slice_toB W A bs.length c m (by omega)
  have hw1 : IntKind.i64.wrap ((bs.length : Int) - (sf : Int)) = ((bs.length - sf : Nat) : Int) := by rw [IntWalk.i64_in _ (by omega)]; omega
  obtain ⟨lo, hlo⟩ : ∃ lo, bs.length - sf = lo := ⟨_, rfl⟩
  rw [hlo] at hw1
  have hlo2 : (bs.length : Int) - (sf : Int) = (lo : Int) := by omega
  rw [hlo2] at hm2
  clear h hrd hA0 ho hml hlo hlo2 hcut
  go_enter Try.func13, Try.ntmps13
  go_wp2_with fail
  refine wp_region_held_drew (S := (fun w' => w'.cell? { block := N, off := 1 } = some (.slice A bs.length c) ∧ w'.cell? { block := N, off := 2 } = some (.int .i64 (sf : Nat)))) (by kernel_rfl) ⟨c1, c2⟩ (fun hHeld => ?_)
  refine wpAnyH_take (i := 0) (v := ?_) (by simp only [List.getElem?_toArray, List.getElem?_cons_zero]; rfl) (by kernel_rfl) (by kernel_rfl) (by kernel_rfl) (by exact fun _ _ _ h => h) (Or.inl ⟨by rfl, ?_⟩) (by assumption) ?_
  rotate_left
  · intro w hSw; (try dsimp only at hSw); go_simp; (try with_reducible rfl)
  try simp only [Act.put, List.setIfInBounds_toArray, List.set_cons_zero, List.set_cons_succ]
  refine wpAnyH_take (i := 1) (v := ?_) (by simp only [List.getElem?_toArray, List.getElem?_cons_zero, List.getElem?_cons_succ]; rfl) (by kernel_rfl) (by kernel_rfl) (by kernel_rfl) (by exact fun _ _ _ h => h) (Or.inl ⟨by rfl, ?_⟩) (by assumption) ?_
  rotate_left
  · intro w hSw; (try dsimp only at hSw); go_simp; (try with_reducible rfl)
  try simp only [Act.put, List.setIfInBounds_toArray, List.set_cons_zero, List.set_cons_succ]
  refine wpAnyH_take (i := 2) (v := ?_) (by simp only [List.getElem?_toArray, List.getElem?_cons_zero, List.getElem?_cons_succ]; rfl) (by kernel_rfl) (by kernel_rfl) (by kernel_rfl) (by exact fun _ _ _ h => h) (Or.inl ⟨by rfl, ?_⟩) (by assumption) ?_
  rotate_left
  · intro w hSw; (try dsimp only at hSw); go_simp; (try with_reducible rfl)
  try simp only [Act.put, List.setIfInBounds_toArray, List.set_cons_zero, List.set_cons_succ]
  refine wpAnyH_take (i := 3) (v := ?_) (by simp only [List.getElem?_toArray, List.getElem?_cons_zero, List.getElem?_cons_succ]; rfl) (by kernel_rfl) (by kernel_rfl) (by kernel_rfl) (by exact fun _ _ _ h => h) (Or.inl ⟨by rfl, ?_⟩) (by assumption) ?_
  rotate_left
  · intro w hSw; (try dsimp only at hSw); go_simp; (try with_reducible rfl)
  try simp only [Act.put, List.setIfInBounds_toArray, List.set_cons_zero, List.set_cons_succ]
  refine wpAnyH_take (i := 4) (v := ?_) (by simp only [List.getElem?_toArray, List.getElem?_cons_zero, List.getElem?_cons_succ]; rfl) (by kernel_rfl) (by kernel_rfl) (by kernel_rfl) (by exact fun _ _ _ h => h) (Or.inl ⟨by rfl, ?_⟩) (by assumption) ?_
  rotate_left
  · intro w hSw; (try dsimp only at hSw); go_simp; (try with_reducible rfl)
  try simp only [Act.put, List.setIfInBounds_toArray, List.set_cons_zero, List.set_cons_succ]
  refine wpAnyH_take (i := 5) (v := ?_) (by simp only [List.getElem?_toArray, List.getElem?_cons_zero, List.getElem?_cons_succ]; rfl) (by kernel_rfl) (by kernel_rfl) (by kernel_rfl) (by exact fun _ _ _ h => h) (Or.inl ⟨by rfl, ?_⟩) (by assumption) ?_
  rotate_left
  · intro w hSw; (try dsimp only at hSw); go_simp; (try with_reducible rfl)
  try simp only [Act.put, List.setIfInBounds_toArray, List.set_cons_zero, List.set_cons_succ]
  refine wpAnyH_take (i := 6) (v := ?_) (by simp only [List.getElem?_toArray, List.getElem?_cons_zero, List.getElem?_cons_succ]; rfl) (by kernel_rfl) (by kernel_rfl) (by kernel_rfl) (by exact fun _ _ _ h => h) (Or.inl ⟨by rfl, ?_⟩) (by assumption) ?_
  rotate_left
  · intro w hSw; (try dsimp only at hSw); go_simp; (try with_reducible rfl)
  try simp only [Act.put, List.setIfInBounds_toArray, List.set_cons_zero, List.set_cons_succ]
  refine wpAnyH_take (i := 7) (v := ?_) (by simp only [List.getElem?_toArray, List.getElem?_cons_zero, List.getElem?_cons_succ]; rfl) (by kernel_rfl) (by kernel_rfl) (by kernel_rfl) (by exact fun _ _ _ h => h) (Or.inl ⟨by rfl, ?_⟩) (by assumption) ?_
  rotate_left
  · intro w hSw; (try dsimp only at hSw); go_simp; (try with_reducible rfl)
  try simp only [Act.put, List.setIfInBounds_toArray, List.set_cons_zero, List.set_cons_succ]
  refine wpAnyH_take (i := 8) (v := ?_) (by simp only [List.getElem?_toArray, List.getElem?_cons_zero, List.getElem?_cons_succ]; rfl) (by kernel_rfl) (by kernel_rfl) (by kernel_rfl) (by exact fun _ _ _ h => h) (Or.inl ⟨by rfl, ?_⟩) (by assumption) ?_
  rotate_left
  · intro w hSw; (try dsimp only at hSw); go_simp; (try with_reducible rfl)
  try simp only [Act.put, List.setIfInBounds_toArray, List.set_cons_zero, List.set_cons_succ]
  refine wpAnyH_take (i := 9) (v := ?_) (by simp only [List.getElem?_toArray, List.getElem?_cons_zero, List.getElem?_cons_succ]; rfl) (by kernel_rfl) (by kernel_rfl) (by kernel_rfl) (by exact fun _ _ _ h => h) (Or.inl ⟨by rfl, ?_⟩) (by assumption) ?_
  rotate_left
  · intro w hSw; (try dsimp only at hSw); go_simp; (try with_reducible rfl)
  try simp only [Act.put, List.setIfInBounds_toArray, List.set_cons_zero, List.set_cons_succ]
  refine wpAnyH_take (i := 10) (v := ?_) (by simp only [List.getElem?_toArray, List.getElem?_cons_zero, List.getElem?_cons_succ]; rfl) (by kernel_rfl) (by kernel_rfl) (by kernel_rfl) (by exact fun _ _ _ h => h) (Or.inl ⟨by rfl, ?_⟩) (by assumption) ?_
  rotate_left
  · intro w hSw; (try dsimp only at hSw); go_simp; (try with_reducible rfl)
  try simp only [Act.put, List.setIfInBounds_toArray, List.set_cons_zero, List.set_cons_succ]
  refine wpAnyH_done (by kernel_rfl) ?_ _
  go_wp2_with fail
  obtain ⟨mn, hmn⟩ : ∃ mn : Int, (if (lo : Int) < keep then (lo : Int) else keep) = mn := ⟨_, rfl⟩
  obtain ⟨mx, hmx⟩ : ∃ mx : Int, (if 0 < mn then mn else 0) = mx := ⟨_, rfl⟩
  have hw2 : IntKind.i64.wrap ((sf : Int) + mx) = (m : Int) := by rw [IntWalk.i64_in _ (by split at hmn <;> split at hmx <;> omega)]; split at hmn <;> split at hmx <;> omega
  clear hm2
  refine wp_region_held_drew (S := (fun w' => w'.cell? { block := N, off := 2 } = some (.int .i64 (sf : Nat)))) (by kernel_rfl) d2 (fun hHeld => ?_)
  refine wpAnyH_take (i := 0) (v := ?_) (by simp only [List.getElem?_toArray, List.getElem?_cons_zero]; rfl) (by kernel_rfl) (by kernel_rfl) (by kernel_rfl) (by exact fun _ _ _ h => h) (Or.inl ⟨by rfl, ?_⟩) (by assumption) ?_
  rotate_left
  · intro w hSw; (try dsimp only at hSw); go_simp; (try with_reducible rfl)
  try simp only [Act.put, List.setIfInBounds_toArray, List.set_cons_zero, List.set_cons_succ]
  refine wpAnyH_take (i := 1) (v := ?_) (by simp only [List.getElem?_toArray, List.getElem?_cons_zero, List.getElem?_cons_succ]; rfl) (by kernel_rfl) (by kernel_rfl) (by kernel_rfl) (by exact fun _ _ _ h => h) (Or.inl ⟨by rfl, ?_⟩) (by assumption) ?_
  rotate_left
  · intro w hSw; (try dsimp only at hSw); go_simp; (try with_reducible rfl)
  try simp only [Act.put, List.setIfInBounds_toArray, List.set_cons_zero, List.set_cons_succ]
  refine wpAnyH_take (i := 2) (v := ?_) (by simp only [List.getElem?_toArray, List.getElem?_cons_zero, List.getElem?_cons_succ]; rfl) (by kernel_rfl) (by kernel_rfl) (by kernel_rfl) (by exact fun _ _ _ h => h) (Or.inl ⟨by rfl, ?_⟩) (by assumption) ?_
  rotate_left
  · intro w hSw; (try dsimp only at hSw); go_simp; (try with_reducible rfl)
  try simp only [Act.put, List.setIfInBounds_toArray, List.set_cons_zero, List.set_cons_succ]
  refine wpAnyH_take (i := 3) (v := ?_) (by simp only [List.getElem?_toArray, List.getElem?_cons_zero, List.getElem?_cons_succ]; rfl) (by kernel_rfl) (by kernel_rfl) (by kernel_rfl) (by exact fun _ _ _ h => h) (Or.inl ⟨by rfl, ?_⟩) (by assumption) ?_
  rotate_left
  · intro w hSw; (try dsimp only at hSw); go_simp; (try with_reducible rfl)
  try simp only [Act.put, List.setIfInBounds_toArray, List.set_cons_zero, List.set_cons_succ]
  refine wpAnyH_take (i := 5) (v := ?_) (by simp only [List.getElem?_toArray, List.getElem?_cons_zero, List.getElem?_cons_succ]; rfl) (by kernel_rfl) (by kernel_rfl) (by kernel_rfl) (by exact fun _ _ _ h => h) (Or.inl ⟨by rfl, ?_⟩) (by assumption) ?_
  rotate_left
  · intro w hSw; (try dsimp only at hSw); go_simp; (try with_reducible rfl)
  try simp only [Act.put, List.setIfInBounds_toArray, List.set_cons_zero, List.set_cons_succ]
  refine wpAnyH_take (i := 6) (v := ?_) (by simp only [List.getElem?_toArray, List.getElem?_cons_zero, List.getElem?_cons_succ]; rfl) (by kernel_rfl) (by kernel_rfl) (by kernel_rfl) (by exact fun _ _ _ h => h) (Or.inl ⟨by rfl, ?_⟩) (by assumption) ?_
  rotate_left
  · intro w hSw; (try dsimp only at hSw); go_simp; (try with_reducible rfl)
  try simp only [Act.put, List.setIfInBounds_toArray, List.set_cons_zero, List.set_cons_succ]
  refine wpAnyH_take (i := 7) (v := ?_) (by simp only [List.getElem?_toArray, List.getElem?_cons_zero, List.getElem?_cons_succ]; rfl) (by kernel_rfl) (by kernel_rfl) (by kernel_rfl) (by exact fun _ _ _ h => h) (Or.inl ⟨by rfl, ?_⟩) (by assumption) ?_
  rotate_left
  · intro w hSw; (try dsimp only at hSw); go_simp; (try with_reducible rfl)
  try simp only [Act.put, List.setIfInBounds_toArray, List.set_cons_zero, List.set_cons_succ]
  refine wpAnyH_take (i := 8) (v := ?_) (by simp only [List.getElem?_toArray, List.getElem?_cons_zero, List.getElem?_cons_succ]; rfl) (by kernel_rfl) (by kernel_rfl) (by kernel_rfl) (by exact fun _ _ _ h => h) (Or.inl ⟨by rfl, ?_⟩) (by assumption) ?_
  rotate_left
  · intro w hSw; (try dsimp only at hSw); go_simp; (try with_reducible rfl)
  try simp only [Act.put, List.setIfInBounds_toArray, List.set_cons_zero, List.set_cons_succ]
  refine wpAnyH_take (i := 9) (v := ?_) (by simp only [List.getElem?_toArray, List.getElem?_cons_zero, List.getElem?_cons_succ]; rfl) (by kernel_rfl) (by kernel_rfl) (by kernel_rfl) (by exact fun _ _ _ h => h) (Or.inl ⟨by rfl, ?_⟩) (by assumption) ?_
  rotate_left
  · intro w hSw; (try dsimp only at hSw); go_simp; (try with_reducible rfl)
  try simp only [Act.put, List.setIfInBounds_toArray, List.set_cons_zero, List.set_cons_succ]
  refine wpAnyH_take (i := 10) (v := ?_) (by simp only [List.getElem?_toArray, List.getElem?_cons_zero, List.getElem?_cons_succ]; rfl) (by kernel_rfl) (by kernel_rfl) (by kernel_rfl) (by exact fun _ _ _ h => h) (Or.inl ⟨by rfl, ?_⟩) (by assumption) ?_
  rotate_left
  · intro w hSw; (try dsimp only at hSw); go_simp; (try with_reducible rfl)
  try simp only [Act.put, List.setIfInBounds_toArray, List.set_cons_zero, List.set_cons_succ]
  refine wpAnyH_take (i := 11) (v := ?_) (by simp only [List.getElem?_toArray, List.getElem?_cons_zero, List.getElem?_cons_succ]; rfl) (by kernel_rfl) (by kernel_rfl) (by kernel_rfl) (by exact fun _ _ _ h => h) (Or.inl ⟨by rfl, ?_⟩) (by assumption) ?_
  rotate_left
  · intro w hSw; (try dsimp only at hSw); go_simp; (try with_reducible rfl)
  try simp only [Act.put, List.setIfInBounds_toArray, List.set_cons_zero, List.set_cons_succ]
  refine wpAnyH_take (i := 12) (v := ?_) (by simp only [List.getElem?_toArray, List.getElem?_cons_zero, List.getElem?_cons_succ]; rfl) (by kernel_rfl) (by kernel_rfl) (by kernel_rfl) (by exact fun _ _ _ h => h) (Or.inl ⟨by rfl, ?_⟩) (by assumption) ?_
  rotate_left
  · intro w hSw; (try dsimp only at hSw); go_simp; (try with_reducible rfl)
  try simp only [Act.put, List.setIfInBounds_toArray, List.set_cons_zero, List.set_cons_succ]
  refine wpAnyH_take (i := 13) (v := ?_) (by simp only [List.getElem?_toArray, List.getElem?_cons_zero, List.getElem?_cons_succ]; rfl) (by kernel_rfl) (by kernel_rfl) (by kernel_rfl) (by exact fun _ _ _ h => h) (Or.inl ⟨by rfl, ?_⟩) (by assumption) ?_
  rotate_left
  · intro w hSw; (try dsimp only at hSw); go_simp; (try with_reducible rfl)
  try simp only [Act.put, List.setIfInBounds_toArray, List.set_cons_zero, List.set_cons_succ]
  refine wpAnyH_ready (rs := [4]) (by kernel_rfl) (by simp) ?_
  refine AllReadyH.cons (by simp only [List.getElem?_toArray, List.getElem?_cons_zero, List.getElem?_cons_succ]; rfl) (fun K hK => ?_) AllReadyH.nil
  go_simp
  refine hK.out _ _ (d2) (fun hHeld => ?_)
  clear hK K
  try simp only [Act.put, List.setIfInBounds_toArray, List.set_cons_zero, List.set_cons_succ]
  refine wpAnyH_take (i := 14) (v := ?_) (by simp only [List.getElem?_toArray, List.getElem?_cons_zero, List.getElem?_cons_succ]; rfl) (by kernel_rfl) (by kernel_rfl) (by kernel_rfl) (by exact fun _ _ _ h => h) (Or.inl ⟨by rfl, ?_⟩) (by assumption) ?_
  rotate_left
  · intro w hSw; (try dsimp only at hSw); go_simp; (try with_reducible rfl)
  try simp only [Act.put, List.setIfInBounds_toArray, List.set_cons_zero, List.set_cons_succ]
  refine wpAnyH_take (i := 15) (v := ?_) (by simp only [List.getElem?_toArray, List.getElem?_cons_zero, List.getElem?_cons_succ]; rfl) (by kernel_rfl) (by kernel_rfl) (by kernel_rfl) (by exact fun _ _ _ h => h) (Or.inl ⟨by rfl, ?_⟩) (by assumption) ?_
  rotate_left
  · intro w hSw; (try dsimp only at hSw); go_simp; (try with_reducible rfl)
  try simp only [Act.put, List.setIfInBounds_toArray, List.set_cons_zero, List.set_cons_succ]
  refine wpAnyH_take (i := 16) (v := ?_) (by simp only [List.getElem?_toArray, List.getElem?_cons_zero, List.getElem?_cons_succ]; rfl) (by kernel_rfl) (by kernel_rfl) (by kernel_rfl) (by exact fun _ _ _ h => h) (Or.inl ⟨by rfl, ?_⟩) (by assumption) ?_
  rotate_left
  · intro w hSw; (try dsimp only at hSw); go_simp; (try with_reducible rfl)
  try simp only [Act.put, List.setIfInBounds_toArray, List.set_cons_zero, List.set_cons_succ]
  refine wpAnyH_ready (rs := [17]) (by kernel_rfl) (by simp) ?_
  refine AllReadyH.cons (by simp only [List.getElem?_toArray, List.getElem?_cons_zero, List.getElem?_cons_succ]; rfl) (fun K hK => ?_) AllReadyH.nil
  go_simp
  refine hK.out _ _ (e2) (fun hHeld => ?_)
  clear hK K
  try simp only [Act.put, List.setIfInBounds_toArray, List.set_cons_zero, List.set_cons_succ]
  refine wpAnyH_done (by kernel_rfl) ?_ _
  go_wp2_with fail
  refine (CF.out).mono ?_
  rintro e w' ⟨rfl, hC, ho⟩
  rw [HML.out] at hC
  have HC := Lib.hid hC
  have HO2 := Lib.hid ho
  rw [HML.out]
  clear hC ho
  go_wp2_with fail
  exact bodyPost_ret (v := .int .i64 (m : Nat)) (by simp [results, Try.results13, go_sem]) rfl ⟨_, rfl, HC.out, HO.out.trans HO2.out (fun x hx => .inl hx), by cases A <;> rfl⟩
set_option maxHeartbeats 4000000 in
set_option maxRecDepth 100000 in
theorem cloneB_any (A : Option Addr) (c : Nat) (zs : List UInt8) (w : World) (h : layB.Rd w A zs) (hA : A = none → c = 0) (hc : zs.length ≤ c) (hl : zs.length ≤ 900000) : Calls Try.prog 20 #[.slice A zs.length c] w fun e w' => ∃ v, e = .returned v ∧ layB.Row 5 w' w.heap.size v zs.length zs ∧ Below w.heap.size w w' := by
  cases A with
  | none =>
    have hc0 := hA rfl
    obtain rfl : zs = [] := h.none_nil
    subst hc0
    have hn := fun W => Lib.run_eql_slice_nil (P := Try.prog) W 29 5 none 0 0 0 0 Try.underlying29
    go_enter Try.func20, Try.ntmps20
    go_wp2_with fail
    go_ret
    exact ⟨_, rfl, LayG.Row.nil _ _, Below.refl _ _⟩
  | some ad =>
    have HR := Lib.hid h
    clear h hA
    have hn := fun W => Lib.run_eql_slice_nil (P := Try.prog) W 29 5 (some ad) zs.length c 0 0 Try.underlying29
    have r0 : layB.Row 5 (w.alloc (.cells #[] 5)) w.heap.size (.slice (some ⟨w.heap.size, 0, none⟩) 0 0) 0 [] := LayG.Row.lit (L := layB) (E := 5) w #[] [] rfl (Nat.zero_le _)
    have hb0 : Below w.heap.size w (w.alloc (.cells #[] 5)) := (Below.refl _ _).alloc (Nat.le_refl _) _
    have HR0 := Lib.hid r0
    have HB0 := Lib.hid hb0
    clear r0 hb0
    go_enter Try.func20, Try.ntmps20
    go_wp2_with (at_builtin; refine wpList_append_G typB rfl _ _ rfl w.heap.size (.slice (some ⟨w.heap.size, 0, none⟩) 0 0) 0 [] rfl HR0.out (some ad) zs.length c zs rfl rfl (HR.out.below (Nat.le_refl _) HB0.out) (by omega) (by simp) (w.heap.size + 1) (by simp) ?_)
    intro v' w' r g l
    have hb := HB0.out.grown g (by simp) (fun k hk => by
      have e : w.heap.size = k := by simpa [Value.ownBlock] using hk
      omega)
    have r : layB.Row 5 w' w.heap.size v' zs.length zs := by simpa using r
    have HRow := Lib.hid r
    have HB := Lib.hid hb
    clear r g l hb
    go_wp2_with fail
    go_ret
    exact ⟨_, rfl, HRow.out, HB.out⟩
set_option maxHeartbeats 4000000 in
set_option maxRecDepth 100000 in
theorem codeBytes {w : World} {B N n : Nat} {vB : Value} {bs : List UInt8} {sf : Nat} (h : CodeD w B N n vB bs sf) (hl : bs.length ≤ 600000) : Calls Try.prog 16 #[.pointer (some ⟨N, 0, none⟩)] w fun e w' => ∃ v, e = .returned v ∧ layB.Row 5 w' w.heap.size v bs.length bs ∧ Below w.heap.size w w' := by
  obtain ⟨c0, c1, c2⟩ := h.cells
  obtain ⟨A, c, rfl, hcap, hrd, _, hA0⟩ := h.row.rd
  have CC := Lib.hid (cloneB_any A c bs w hrd (fun e => (hA0 e).2) hcap (by omega))
  clear h hrd hA0
  go_enter Try.func16, Try.ntmps16
  go_wp2_with fail
  refine (CC.out).mono ?_
  rintro e w' ⟨v, rfl, hr, hb⟩
  have HR := Lib.hid hr
  have HB := Lib.hid hb
  clear hr hb
  go_wp2_with fail
  go_ret
  exact ⟨v, rfl, HR.out, HB.out⟩
set_option maxHeartbeats 8000000 in
set_option maxRecDepth 100000 in
theorem codeAppFull {w : World} {B N n : Nat} {vB : Value} {bs : List UInt8} {sf : Nat} (h : CodeD w B N n vB bs sf) (hn : bs.length ≤ n) (hr30 : n ≤ 1073741824) (A : Option Addr) (c : Nat) (zs : List BsZ) (hr : RdS w A zs) (hA : FreeS (footD N vB) A zs) (hc : zs.length ≤ c) (hl : zs.length ≤ 1000) (hb : (catS zs).length ≤ 300000) (hl2 : bs.length ≤ 300000) (hfit : ¬ bs.length + (catS zs).length ≤ n) : Calls Try.prog 9 #[.pointer (some ⟨N, 0, none⟩), .slice A zs.length c] w fun e w' => e = .returned (.int .i64 50) ∧ Below w.heap.size w w' := by
  have HA := Lib.hid h
  have HR := Lib.hid hr
  have HF := Lib.hid hA
  have CL := Lib.hid (codeLeft h hn hr30)
  have HFit := Lib.hid hfit
  clear h hr hA hfit
  go_enter Try.func9, Try.ntmps9
  go_wp2_with fail
  refine (CL.out).mono ?_
  rintro e w1 ⟨rfl, hb1⟩
  obtain ⟨left, hleft⟩ : ∃ left, n - bs.length = left := ⟨_, rfl⟩
  have hls : bs.length + left = n := by omega
  have hlb : left ≤ 1073741824 := by omega
  rw [hleft]
  have HB1 := Lib.hid hb1
  have HLs := Lib.hid hls
  clear hleft hb1 hls
  go_wp2_with fail
  go_loopw [5, 14] (fun l i wr => ∃ k lf : Nat, k ≤ zs.length ∧ l = .int .i64 (lf : Nat) ∧ i = .int .i64 (k : Nat) ∧ lf + (catS (zs.take k)).length = left ∧ Below w.heap.size w wr) (fun _ i _ => zs.length - (intOf i).toNat)
  case atStart => exact ⟨0, left, Nat.zero_le _, rfl, rfl, rfl, HB1.out⟩
  case round =>
    obtain ⟨k, lf, hk, rfl, rfl, hsum, hbw⟩ := hrel
    have HSum := Lib.hid hsum
    have HBw := Lib.hid hbw
    clear hsum hbw
    by_cases hlt : k < zs.length
    · obtain ⟨ad, rfl, hblk, h0⟩ := layS_at (HR.out.below (Nat.le_refl _) HBw.out).1 hlt
      have hzl := catS_take zs (k + 1)
      have hsu := catS_succ zs k hlt
      obtain ⟨z, hz⟩ : ∃ z, zs.getD k default = z := ⟨_, rfl⟩
      rw [hz] at h0 hsu
      obtain ⟨za, zc, zb⟩ := z
      unfold BsZ.val at h0
      dsimp only at h0 hsu
      have hs3 := HSum.out
      have hki : (k : Int) < (zs.length : Int) := by omega
      rw [hsu, List.length_append] at hzl
      by_cases hbig : lf < zb.length
      · have hbi : (lf : Int) < (zb.length : Int) := by omega
        have hnf : ¬ bs.length + (catS zs).length ≤ n := by have := HLs.out; omega
        have HNf := Lib.hid hnf
        clear hnf hs3 hzl hsu hz
        go_wp2_with fail
        go_ret
        exact ⟨rfl, HBw.out⟩
      · have hbi : ¬ ((lf : Int) < (zb.length : Int)) := by omega
        have hwr : IntKind.i64.wrap ((lf : Int) - (zb.length : Int)) = ((lf - zb.length : Nat) : Int) := by rw [IntWalk.i64_in _ (by omega)]; omega
        have hs4 : lf - zb.length + (catS (zs.take (k + 1))).length = left := by rw [hsu, List.length_append]; omega
        have HS4 := Lib.hid hs4
        clear hs4 hs3 hzl hsu hz
        go_wp2_with fail
        go_roundw
        case rel => exact ⟨k + 1, lf - zb.length, by omega, rfl, by go_num, HS4.out, HBw.out⟩
        case measure => simp [intOf]; omega
    · obtain rfl : k = zs.length := by omega
      have hs3 := HSum.out
      rw [List.take_length] at hs3
      have hfit : bs.length + (catS zs).length ≤ n := by have := HLs.out; omega
      exact absurd hfit HFit.out
set_option maxHeartbeats 8000000 in
set_option maxRecDepth 100000 in
theorem codeApp {w : World} {B N n : Nat} {vB : Value} {bs : List UInt8} {sf : Nat} (h : CodeD w B N n vB bs sf) (hn : bs.length ≤ n) (hr30 : n ≤ 1073741824) (A : Option Addr) (c : Nat) (zs : List BsZ) (hr : RdS w A zs) (hA : FreeS (footD N vB) A zs) (hc : zs.length ≤ c) (hl : zs.length ≤ 1000) (hb : (catS zs).length ≤ 300000) (hl2 : bs.length ≤ 300000) (hfit : bs.length + (catS zs).length ≤ n) : Calls Try.prog 9 #[.pointer (some ⟨N, 0, none⟩), .slice A zs.length c] w fun e w' => ∃ vB', e = .returned (.int .i64 0) ∧ CodeD w' B N n vB' (bs ++ catS zs) sf ∧ Only (footD N vB) w w' ∧ (∀ x, vB'.ownBlock = some x → vB.ownBlock = some x ∨ w.heap.size ≤ x) := by
  have HA := Lib.hid h
  have HR := Lib.hid hr
  have HF := Lib.hid hA
  have CL := Lib.hid (codeLeft h hn hr30)
  have HFit := Lib.hid hfit
  clear h hr hA hfit
  go_enter Try.func9, Try.ntmps9
  go_wp2_with fail
  refine (CL.out).mono ?_
  rintro e w1 ⟨rfl, hb1⟩
  obtain ⟨left, hleft⟩ : ∃ left, n - bs.length = left := ⟨_, rfl⟩
  have hls : bs.length + left = n := by omega
  have hlb : left ≤ 1073741824 := by omega
  rw [hleft]
  have HB1 := Lib.hid hb1
  have HLs := Lib.hid hls
  clear hleft hb1 hls
  go_wp2_with fail
  go_loopw [5, 14] (fun l i wr => ∃ k lf : Nat, k ≤ zs.length ∧ l = .int .i64 (lf : Nat) ∧ i = .int .i64 (k : Nat) ∧ lf + (catS (zs.take k)).length = left ∧ Below w.heap.size w wr) (fun _ i _ => zs.length - (intOf i).toNat)
  case atStart => exact ⟨0, left, Nat.zero_le _, rfl, rfl, rfl, HB1.out⟩
  case round =>
    obtain ⟨k, lf, hk, rfl, rfl, hsum, hbw⟩ := hrel
    have HSum := Lib.hid hsum
    have HBw := Lib.hid hbw
    clear hsum hbw
    by_cases hlt : k < zs.length
    · obtain ⟨ad, rfl, hblk, h0⟩ := layS_at (HR.out.below (Nat.le_refl _) HBw.out).1 hlt
      have hzl := catS_take zs (k + 1)
      have hsu := catS_succ zs k hlt
      obtain ⟨z, hz⟩ : ∃ z, zs.getD k default = z := ⟨_, rfl⟩
      rw [hz] at h0 hsu
      obtain ⟨za, zc, zb⟩ := z
      unfold BsZ.val at h0
      dsimp only at h0 hsu
      have hs3 := HSum.out
      have hki : (k : Int) < (zs.length : Int) := by omega
      rw [hsu, List.length_append] at hzl
      by_cases hbig : lf < zb.length
      · have hbi : (lf : Int) < (zb.length : Int) := by omega
        have hnf : ¬ bs.length + (catS zs).length ≤ n := by have := HLs.out; omega
        have HNf := Lib.hid hnf
        clear hnf hs3 hzl hsu hz
        go_wp2_with fail
        exact absurd HFit.out HNf.out
      · have hbi : ¬ ((lf : Int) < (zb.length : Int)) := by omega
        have hwr : IntKind.i64.wrap ((lf : Int) - (zb.length : Int)) = ((lf - zb.length : Nat) : Int) := by rw [IntWalk.i64_in _ (by omega)]; omega
        have hs4 : lf - zb.length + (catS (zs.take (k + 1))).length = left := by rw [hsu, List.length_append]; omega
        have HS4 := Lib.hid hs4
        clear hs4 hs3 hzl hsu hz
        go_wp2_with fail
        go_roundw
        case rel => exact ⟨k + 1, lf - zb.length, by omega, rfl, by go_num, HS4.out, HBw.out⟩
        case measure => simp [intOf]; omega
    · obtain rfl : k = zs.length := by omega
      have hs3 := HSum.out
      rw [List.take_length] at hs3
      have hfit : bs.length + (catS zs).length ≤ n := by have := HLs.out; omega
      clear hfit hs3
      go_wp2_with fail
      go_loopw [29] (fun i wr => ∃ (k : Nat) (vB' : Value), k ≤ zs.length ∧ i = .int .i64 (k : Nat) ∧ CodeD wr B N n vB' (bs ++ catS (zs.take k)) sf ∧ (∀ x, vB'.ownBlock = some x → vB.ownBlock = some x ∨ w.heap.size ≤ x) ∧ Only (footD N vB) w wr) (fun i _ => zs.length - (intOf i).toNat)
      case atStart => exact ⟨0, _, Nat.zero_le _, rfl, by simpa [catS] using HA.out.below HBw.out, fun x hx => .inl hx, Only.mono (S := NoB) (Below.only HBw.out) (fun x hx => hx.elim)⟩
      case round =>
        clear HBw HSum HB1
        obtain ⟨k, vB', hk, rfl, hK, hv, ho⟩ := hrel
        by_cases hlt : k < zs.length
        · have hrk := HR.out.only ho HF.out
          obtain ⟨ad, rfl, hblk, h0⟩ := layS_at hrk.1 hlt
          have hzok := (hrk.2 _ (mem_getDS hlt)).2
          have hzc := catS_take zs (k + 1)
          have hsu := catS_succ zs k hlt
          obtain ⟨z, hz⟩ : ∃ z, zs.getD k default = z := ⟨_, rfl⟩
          rw [hz] at h0 hzok hsu
          obtain ⟨za, zc, zb⟩ := z
          unfold BsZ.val at h0
          dsimp only at h0 hzok hsu
          rw [hsu, List.length_append] at hzc
          obtain ⟨rk, hrk2⟩ : ∃ rk, bs ++ catS (zs.take k) = rk := ⟨_, rfl⟩
          have hrl : rk.length = bs.length + (catS (zs.take k)).length := by rw [← hrk2, List.length_append]
          have hrn : bs ++ catS (zs.take (k + 1)) = rk ++ zb := by rw [hsu, ← List.append_assoc, hrk2]
          rw [hrk2] at hK
          obtain ⟨c0, c1, c2⟩ := hK.cells
          obtain ⟨AF, cF, rfl, _, _, hFb, _⟩ := hK.row.rd
          have f1 := hK.frozen 1
          have hNlt := hK.lt
          have hki : (k : Int) < (zs.length : Int) := by omega
          have HK := Lib.hid hK
          have HZ := Lib.hid hzok
          have HV := Lib.hid hv
          have HO := Lib.hid ho
          have HRn := Lib.hid hrn
          have hrkl : rk.length + zb.length ≤ 1000000 := by omega
          clear hrk hK hv ho hsu hrn hz hzok hrk2 hrl hzc hFb c0 c2
          go_wp2_with (at_builtin; refine wpList_append_G typB rfl _ _ rfl B (.slice AF rk.length cF) rk.length rk rfl HK.out.row za zb.length zc zb rfl rfl HZ.out hrkl (by have := HK.out.hB; have := HK.out.lt; omega) wr.heap.size rfl ?_)
          intro v4 w4 r4 g4 l4
          have hg := HK.out.growB (bs' := rk ++ zb) g4 (by rw [List.length_append]; exact r4) l4
          have hNlt4 : N < w4.heap.size := Nat.lt_of_lt_of_le HK.out.lt g4.size
          have f4 := (World.frozen?_of_block (a := { block := N, off := 1 }) (g4.block N HK.out.lt (fun e => HK.out.nN e.symm))).trans f1
          have c4 := (World.cell?_of_block (a := { block := N, off := 1 }) (g4.block N HK.out.lt (fun e => HK.out.nN e.symm))).trans c1
          have oT : Only (footD N vB) w (w4.setCell { block := N, off := 1 } v4) := (HO.out.grown g4 (fun y hy => by
            rcases HV.out y hy with h1 | h1
            · exact .inl (.inr h1)
            · exact .inr h1)).setCell (p := { block := N, off := 1 }) (.inl (.inl rfl)) v4
          have hv4 : ∀ y, v4.ownBlock = some y → vB.ownBlock = some y ∨ w.heap.size ≤ y := fun y hy => by
            rcases l4 y hy with h1 | h1
            · exact HV.out y h1
            · have := HO.out.size; exact .inr (by omega)
          obtain ⟨A4, cc4, e4, _, _, _, _⟩ := r4.rd
          subst e4
          have HG := Lib.hid hg
          have HOT := Lib.hid oT
          have HV4 := Lib.hid hv4
          clear hg oT hv4 r4 g4 l4
          go_wp2_with fail
          go_roundw
          case rel => exact ⟨k + 1, _, by omega, by go_num, by rw [HRn.out]; exact HG.out, HV4.out, HOT.out⟩
          case measure => simp [intOf]; omega
        · obtain rfl : k = zs.length := by omega
          rw [List.take_length] at hK
          have HK := Lib.hid hK
          have HV := Lib.hid hv
          have HO := Lib.hid ho
          clear hK hv ho
          go_wp2_with fail
          go_ret
          exact ⟨_, rfl, HK.out, HO.out, HV.out⟩
def AtD (w : World) (B N n : Nat) (bs : List UInt8) (sf : Nat) (S : Nat → Prop) : Prop := ∃ vB, CodeD w B N n vB bs sf ∧ sf ≤ bs.length ∧ bs.length ≤ n ∧ n ≤ 1073741824 ∧ S = footD N vB
theorem keepR_le {bs : List UInt8} {sf : Nat} {keep : Int} (h : sf ≤ bs.length) : keepR bs sf keep ≤ bs.length := by unfold keepR; omega
theorem moved_same {w w' : World} {N : Nat} {vB vB' : Value} (ho : Only (fun k => k = N) w w') (he : vB'.ownBlock = vB.ownBlock) : Moved (footD N vB) (footD N vB') w w' :=
  ⟨ho.mono (fun x hx => .inl hx), fun k hk => .inl (by rcases hk with h | h; exact .inl h; exact .inr (he ▸ h))⟩
theorem diSpec_is : Nonempty DiSpec := ⟨{
  At := AtD
  foot := fun h => by obtain ⟨vB, hC, _, _, _, rfl⟩ := h; exact hC.foot_lt
  only := fun h ho hS => by obtain ⟨vB, hC, h1, h2, h3, rfl⟩ := h; exact ⟨vB, hC.only ho hS, h1, h2, h3, rfl⟩
  inv := fun h => by obtain ⟨vB, hC, h1, h2, h3, rfl⟩ := h; exact ⟨h1, h2, h3⟩
  new_ := fun n w hn => (codeNew n w hn).mono (by rintro e w' ⟨rfl, hC, hb⟩; exact ⟨_, _, rfl, ⟨_, hC, Nat.le_refl _, Nat.zero_le _, hn, rfl⟩, hb⟩)
  newBad := fun n w _ h => codeNewBad n w h
  app_ := fun A c zs h hr hA hc hl hb hl2 hfit => by
    obtain ⟨vB, hC, h1, h2, h3, rfl⟩ := h
    refine (codeApp hC h2 h3 A c zs hr hA hc hl hb hl2 hfit).mono ?_
    rintro e w' ⟨vB', rfl, hC', ho, hv⟩
    refine ⟨_, rfl, ⟨vB', hC', by rw [List.length_append]; omega, by rw [List.length_append]; exact hfit, h3, rfl⟩, ho, fun k hk => ?_⟩
    rcases hk with h4 | h4
    · exact .inl (.inl h4)
    · rcases hv k h4 with h5 | h5
      · exact .inl (.inr h5)
      · exact .inr h5
  appFull := fun A c zs h hr hA hc hl hb hl2 hfit => by
    obtain ⟨vB, hC, h1, h2, h3, rfl⟩ := h
    refine (codeAppFull hC h2 h3 A c zs hr hA hc hl hb hl2 hfit).mono ?_
    rintro e w' ⟨rfl, hb⟩
    exact ⟨_, rfl, ⟨vB, hC.below hb, h1, h2, h3, rfl⟩, Moved.of_below hb⟩
  flush_ := fun h => by
    obtain ⟨vB, hC, h1, h2, h3, rfl⟩ := h
    refine (codeFlush hC).mono ?_
    rintro e w' ⟨rfl, hC', ho⟩
    exact ⟨_, rfl, ⟨vB, hC', Nat.le_refl _, h2, h3, rfl⟩, moved_same ho rfl⟩
  crash_ := fun {w B N n bs sf S} keep h hk hl => by
    obtain ⟨vB, hC, h1, h2, h3, rfl⟩ := h
    refine (codeCrash keep _ hC hk h1 hl rfl).mono ?_
    rintro e w' ⟨vB', rfl, hC', ho, he⟩
    have h4 := keepR_le (keep := keep) h1
    exact ⟨_, rfl, ⟨vB', hC', by rw [List.length_take]; omega, by rw [List.length_take]; omega, h3, rfl⟩, moved_same ho he⟩
  cut_ := fun {w B N n bs sf S} m h hm hl => by
    obtain ⟨vB, hC, h1, h2, h3, rfl⟩ := h
    refine (codeCut m hC hm (by omega)).mono ?_
    rintro e w' ⟨vB', rfl, hC', ho, he⟩
    exact ⟨_, rfl, ⟨vB', hC', by rw [List.length_take]; omega, by rw [List.length_take]; omega, h3, rfl⟩, moved_same ho he⟩
  cutBad := fun m h hi hm hl => by
    obtain ⟨vB, hC, h1, h2, h3, rfl⟩ := h
    refine (codeCutBad m hC hm).mono ?_
    rintro e w' ⟨rfl, rfl⟩
    exact ⟨_, rfl, ⟨vB, hC, h1, h2, h3, rfl⟩, Moved.refl _ _⟩
  bytes_ := fun h hl => by obtain ⟨vB, hC, h1, h2, h3, rfl⟩ := h; exact codeBytes hC hl
  len_ := fun h => by
    obtain ⟨vB, hC, h1, h2, h3, rfl⟩ := h
    exact (codeLen hC).mono (by rintro e w' ⟨rfl, rfl⟩; exact ⟨rfl, Below.refl _ _⟩)
  safe_ := fun h => by
    obtain ⟨vB, hC, h1, h2, h3, rfl⟩ := h
    exact (codeSafe hC).mono (by rintro e w' ⟨rfl, rfl⟩; exact ⟨rfl, Below.refl _ _⟩)
  left_ := fun h => by
    obtain ⟨vB, hC, h1, h2, h3, rfl⟩ := h
    exact codeLeft hC h2 h3 }⟩
end Go.Proofs.Ytebebbehiegleaa
