/- The landed epoch: what it is in memory; its calls but Advance, Least and Busy. -/
import Derived.Test.YtcklafaoijodbaaEpSpec
import Derived.Test.YtcklafaoijodbaaMapK
import Derived.Test.YtcklafaoijodbaaPass
import Derived.Test.YtcklafaoijodbaaNum
import Derived.Laws.Tables
import Derived.Carry
set_option linter.unusedVariables false
namespace Go.Proofs.Ytcklafaoijodbaa
open Go Go.RowKit

theorem intKeyed : Maps.Keyed Try.prog 3 := Maps.int_keyed Try.underlying3
theorem intZero (w : World) : (zeroValue 3).run Try.prog w = .ok (.int .i64 0) w := by kernel_rfl
structure CodeE (w : World) (B N n bm : Nat) (g : Int → Option Value) (sz : Nat) (gl : Int) : Prop where
  cell : w.heap[N]? = some (.cells #[.int .i64 (n : Nat), .int .i64 gl, .map (some bm)] 51 (0, 0))
  hB : B ≤ N
  hb : B ≤ bm
  ne : bm ≠ N
  mp : MapK Try.prog 3 kInt w bm sz g sz
def footE (N bm : Nat) : Nat → Prop := fun k => k = N ∨ k = bm
section
variable {w w' : World} {B N n bm sz : Nat} {g : Int → Option Value} {gl : Int}
theorem CodeE.lt (h : CodeE w B N n bm g sz gl) : N < w.heap.size := (Array.getElem?_eq_some_iff.1 h.cell).1
theorem CodeE.foot_lt (h : CodeE w B N n bm g sz gl) : ∀ k, footE N bm k → B ≤ k ∧ k < w.heap.size := by
  intro k hk
  rcases hk with rfl | rfl
  · exact ⟨h.hB, h.lt⟩
  · exact ⟨h.hb, h.mp.lt⟩
theorem CodeE.only {S : Nat → Prop} (h : CodeE w B N n bm g sz gl) (ho : Only S w w') (hS : ∀ k, footE N bm k → ¬ S k) : CodeE w' B N n bm g sz gl :=
  ⟨(ho.block N h.lt (hS N (.inl rfl))).trans h.cell, h.hB, h.hb, h.ne, h.mp.only ho (hS bm (.inr rfl))⟩
theorem CodeE.drew (h : CodeE w B N n bm g sz gl) : CodeE w.drew B N n bm g sz gl := h.only (S := NoB) ((Only.refl _ w).drew) (fun _ _ h => h)
theorem CodeE.cells (h : CodeE w B N n bm g sz gl) : w.cell? { block := N, off := 0 } = some (.int .i64 (n : Nat)) ∧ w.cell? { block := N, off := 1 } = some (.int .i64 gl) ∧ w.cell? { block := N, off := 2 } = some (.map (some bm)) := by
  refine ⟨?_, ?_, ?_⟩
  · rw [cell_of_row w N 0 _ _ (0, 0) h.cell]; rfl
  · rw [cell_of_row w N 1 _ _ (0, 0) h.cell]; rfl
  · rw [cell_of_row w N 2 _ _ (0, 0) h.cell]; rfl
theorem CodeE.frozen (h : CodeE w B N n bm g sz gl) (j : Nat) : w.frozen? { block := N, off := j } = false := frozen_of_row w N _ _ _ h.cell
/-- The map was written. -/
theorem CodeE.put {sz' m : Nat} {g' : Int → Option Value} (h : CodeE w B N n bm g sz gl) (hm : MapK Try.prog 3 kInt w' bm m g' sz') (ho : Only (fun k => k = bm) w w') : CodeE w' B N n bm g' sz' gl :=
  ⟨(ho.block N h.lt (fun e => h.ne e.symm)).trans h.cell, h.hB, h.hb, h.ne, hm.tight⟩
/-- The global epoch was written. -/
theorem CodeE.up (h : CodeE w B N n bm g sz gl) (x : Int) : CodeE (w.setCell { block := N, off := 1 } (.int .i64 x)) B N n bm g sz x ∧ Only (footE N bm) w (w.setCell { block := N, off := 1 } (.int .i64 x)) := by
  have ho : Only (fun k => k = N) w (w.setCell { block := N, off := 1 } (.int .i64 x)) := Only.setCell (S := fun k => k = N) (p := { block := N, off := 1 }) (Only.refl _ w) (.inl rfl) _
  exact ⟨⟨heap_setCell_same w N 1 _ _ _ h.cell, h.hB, h.hb, h.ne, h.mp.only ho h.ne⟩, ho.mono (fun k hk => .inl hk)⟩
theorem CodeE.look (h : CodeE w B N n bm g sz gl) {s : Int} (hs : I64 s) : (Instr.lookup 49 (.map (some bm)) (.int .i64 s) true).run Try.prog w = .ok (.tuple #[(g s).getD (.int .i64 0), .bool (g s).isSome]) w :=
  h.mp.lookOk (t := 49) (key := .int .i64 s) (x := s) intKeyed Try.underlying49 (intZero w) (keyI (P := Try.prog) Try.underlying3 hs.1 hs.2)
end
def hasB (n : Nat) (s : Int) : Bool := decide (0 ≤ s) && decide (s < (n : Int))
def enteredC (n : Nat) (g : Int → Option Value) (s : Int) : Int := if hasB n s then (if (g s).isSome then 0 else 51) else 2
set_option maxHeartbeats 8000000 in
set_option maxRecDepth 100000 in
theorem has_any {w : World} {B N n bm sz : Nat} {g : Int → Option Value} {gl : Int} (h : CodeE w B N n bm g sz gl) (s : Int) : Calls Try.prog 20 #[.pointer (some ⟨N, 0, none⟩), .int .i64 s] w fun e w' => e = .returned (.bool (hasB n s)) ∧ w = w' := by
  obtain ⟨c0, c1, c2⟩ := h.cells
  clear h
  go_enter Try.func20, Try.ntmps20
  by_cases h0 : 0 ≤ s
  · by_cases h1 : s < (n : Int)
    · go_wp2_with fail
      exact bodyPost_ret (v := .bool true) (by simp [results, Try.results20, go_sem]) rfl ⟨by simp [hasB, h0, h1], rfl⟩
    · go_wp2_with fail
      exact bodyPost_ret (v := .bool false) (by simp [results, Try.results20, go_sem]) rfl ⟨by simp [hasB, h0, h1], rfl⟩
  · go_wp2_with fail
    exact bodyPost_ret (v := .bool false) (by simp [results, Try.results20, go_sem]) rfl ⟨by unfold hasB; rw [decide_eq_false (show ¬ (0 : Int) ≤ s by omega)]; rfl, rfl⟩
set_option maxHeartbeats 8000000 in
set_option maxRecDepth 100000 in
theorem entered_any {w : World} {B N n bm sz : Nat} {g : Int → Option Value} {gl : Int} (h : CodeE w B N n bm g sz gl) {s : Int} (hs : I64 s) : Calls Try.prog 21 #[.pointer (some ⟨N, 0, none⟩), .int .i64 s] w fun e w' => e = .returned (.int .i64 (enteredC n g s)) ∧ w = w' := by
  have HA := Lib.hid h
  obtain ⟨c0, c1, c2⟩ := h.cells
  have hlook := h.look hs
  have HE := Lib.hid (show enteredC n g s = if hasB n s then (if (g s).isSome then 0 else 51) else 2 from rfl)
  clear h hs
  obtain ⟨b, hb⟩ : ∃ b, hasB n s = b := ⟨_, rfl⟩
  obtain ⟨v, hv⟩ : ∃ v, (g s).getD (.int .i64 0) = v := ⟨_, rfl⟩
  obtain ⟨c, hc⟩ : ∃ c, (g s).isSome = c := ⟨_, rfl⟩
  rw [hv, hc] at hlook
  have HB := Lib.hid hb
  have HC := Lib.hid hc
  clear hb hv hc
  go_enter Try.func21, Try.ntmps21
  cases b
  · go_wp2_with fail
    refine (has_any HA.out s).mono ?_
    rintro e w2 ⟨rfl, rfl⟩
    rw [HB.out]
    go_wp2_with fail
    exact bodyPost_ret (v := .int .i64 2) (by simp [results, Try.results21, go_sem]) rfl ⟨by rw [HE.out, HB.out]; rfl, rfl⟩
  · cases c
    · go_wp2_with fail
      refine (has_any HA.out s).mono ?_
      rintro e w2 ⟨rfl, rfl⟩
      rw [HB.out]
      go_wp2_with fail
      exact bodyPost_ret (v := .int .i64 51) (by simp [results, Try.results21, go_sem]) rfl ⟨by rw [HE.out, HB.out, HC.out]; rfl, rfl⟩
    · go_wp2_with fail
      refine (has_any HA.out s).mono ?_
      rintro e w2 ⟨rfl, rfl⟩
      rw [HB.out]
      go_wp2_with fail
      exact bodyPost_ret (v := .int .i64 0) (by simp [results, Try.results21, go_sem]) rfl ⟨by rw [HE.out, HB.out, HC.out]; rfl, rfl⟩
set_option maxHeartbeats 8000000 in
set_option maxRecDepth 100000 in
theorem codeIn_any {w : World} {B N n bm sz : Nat} {g : Int → Option Value} {gl : Int} (h : CodeE w B N n bm g sz gl) {s : Int} (hs : I64 s) : Calls Try.prog 19 #[.pointer (some ⟨N, 0, none⟩), .int .i64 s] w fun e w' => e = .returned (.tuple #[(g s).getD (.int .i64 0), .bool (g s).isSome]) ∧ w = w' := by
  obtain ⟨c0, c1, c2⟩ := h.cells
  have hlook := h.look hs
  clear h hs
  obtain ⟨v, hv⟩ : ∃ v, (g s).getD (.int .i64 0) = v := ⟨_, rfl⟩
  obtain ⟨c, hc⟩ : ∃ c, (g s).isSome = c := ⟨_, rfl⟩
  rw [hv, hc] at hlook ⊢
  clear hv hc
  go_enter Try.func19, Try.ntmps19
  go_wp2_with fail
  exact bodyPost_ret (v := .tuple #[v, .bool c]) (by simp [results, Try.results19, go_sem]) rfl ⟨rfl, rfl⟩
set_option maxHeartbeats 8000000 in
set_option maxRecDepth 100000 in
theorem codeGlobal_any {w : World} {B N n bm sz : Nat} {g : Int → Option Value} {gl : Int} (h : CodeE w B N n bm g sz gl) : Calls Try.prog 17 #[.pointer (some ⟨N, 0, none⟩)] w fun e w' => e = .returned (.int .i64 gl) ∧ w = w' := by
  obtain ⟨c0, c1, c2⟩ := h.cells
  clear h
  go_enter Try.func17, Try.ntmps17
  go_wp2_with fail
  exact bodyPost_ret (v := .int .i64 gl) (by simp [results, Try.results17, go_sem]) rfl ⟨rfl, rfl⟩
set_option maxHeartbeats 8000000 in
set_option maxRecDepth 100000 in
theorem codeNewBad (n f : Int) (w : World) (hn : n < 1 ∨ 64 < n ∨ f < 0 ∨ 2147483647 < f) : Calls Try.prog 7 #[.int .i64 n, .int .i64 f] w fun e w' => e = .returned (.tuple #[.pointer none, .int .i64 2]) ∧ Below w.heap.size w w' := by
  go_enter Try.func7, Try.ntmps7
  by_cases h0 : n < 1
  · go_wp2_with fail
    exact bodyPost_ret (v := .tuple #[.pointer none, .int .i64 2]) (by simp [results, Try.results7, go_sem]) rfl ⟨rfl, Below.refl _ _⟩
  · by_cases h1 : 64 < n
    · go_wp2_with fail
      exact bodyPost_ret (v := .tuple #[.pointer none, .int .i64 2]) (by simp [results, Try.results7, go_sem]) rfl ⟨rfl, Below.refl _ _⟩
    · by_cases h2 : f < 0
      · go_wp2_with fail
        exact bodyPost_ret (v := .tuple #[.pointer none, .int .i64 2]) (by simp [results, Try.results7, go_sem]) rfl ⟨rfl, Below.refl _ _⟩
      · have h3 : 2147483647 < f := by omega
        go_wp2_with fail
        exact bodyPost_ret (v := .tuple #[.pointer none, .int .i64 2]) (by simp [results, Try.results7, go_sem]) rfl ⟨rfl, Below.refl _ _⟩
set_option maxHeartbeats 8000000 in
set_option maxRecDepth 100000 in
theorem codeNew (n : Nat) (f : Int) (w : World) (h0 : 1 ≤ n) (h1 : n ≤ 64) (h2 : 0 ≤ f) (h3 : f ≤ 2147483647) : Calls Try.prog 7 #[.int .i64 (n : Nat), .int .i64 f] w fun e w' => e = .returned (.tuple #[.pointer (some ⟨w.heap.size + 1, 0, none⟩), .int .i64 0]) ∧ CodeE w' w.heap.size (w.heap.size + 1) n w.heap.size (fun _ => none) 0 f ∧ Below w.heap.size w w' := by
  have g0 : ¬ ((n : Int) < 1) := by omega
  have g1 : ¬ (64 < (n : Int)) := by omega
  have g2 : ¬ (f < 0) := by omega
  have g3 : ¬ (2147483647 < f) := by omega
  have hb : Below w.heap.size w ((w.alloc (.map #[] 0)).alloc (.cells #[.int .i64 (n : Nat), .int .i64 f, .map (some w.heap.size)] 51)) := ((Below.refl _ _).alloc (Nat.le_refl _) _).alloc (by simp) _
  have hC : CodeE ((w.alloc (.map #[] 0)).alloc (.cells #[.int .i64 (n : Nat), .int .i64 f, .map (some w.heap.size)] 51)) w.heap.size (w.heap.size + 1) n w.heap.size (fun _ => none) 0 f := by
    refine ⟨?_, by omega, Nat.le_refl _, by omega, ?_⟩
    · have := heap_alloc_new (w.alloc (.map #[] 0)) (.cells #[.int .i64 (n : Nat), .int .i64 f, .map (some w.heap.size)] 51)
      simpa using this
    · exact (MapK.made w Try.prog 3 kInt).only (S := NoB) ((Only.refl _ _).alloc _) (fun h => h)
  have HB := Lib.hid hb
  have HC := Lib.hid hC
  have hbuild := run_build (P := Try.prog) (w.alloc (.map #[] 0)) 51 #[(0, .int .i64 (n : Nat)), (1, .int .i64 f), (2, .map (some w.heap.size))] #[.int .i64 (n : Nat), .int .i64 f, .map (some w.heap.size)] (by kernel_rfl)
  have hmm := @run_makeMap Try.prog
  clear hb hC h0 h1 h2 h3
  go_enter Try.func7, Try.ntmps7
  go_wp2_with fail
  exact bodyPost_ret (v := .tuple #[.pointer (some ⟨w.heap.size + 1, 0, none⟩), .int .i64 0]) (by simp [results, Try.results7, go_sem]) rfl ⟨rfl, HC.out, HB.out⟩
set_option maxHeartbeats 8000000 in
set_option maxRecDepth 100000 in
theorem codeEnter_no {w : World} {B N n bm sz : Nat} {g : Int → Option Value} {gl : Int} (h : CodeE w B N n bm g sz gl) {s : Int} (hs : I64 s) (hb : hasB n s = false) :
    Calls Try.prog 9 #[.pointer (some ⟨N, 0, none⟩), .int .i64 s] w fun e w' => e = .returned (.tuple #[.int .i64 0, .int .i64 2]) ∧ w = w' := by
  have HA := Lib.hid h
  have HB := Lib.hid hb
  clear h hb
  go_enter Try.func9, Try.ntmps9
  go_wp2_with fail
  refine (has_any HA.out s).mono ?_
  rintro e w2 ⟨rfl, rfl⟩
  rw [HB.out]
  go_wp2_with fail
  exact bodyPost_ret (v := .tuple #[.int .i64 0, .int .i64 2]) (by simp [results, Try.results9, go_sem]) rfl ⟨rfl, rfl⟩
set_option maxHeartbeats 8000000 in
set_option maxRecDepth 100000 in
theorem codeEnter_twice {w : World} {B N n bm sz : Nat} {g : Int → Option Value} {gl : Int} (h : CodeE w B N n bm g sz gl) {s : Int} (hs : I64 s) (hb : hasB n s = true) (hc : (g s).isSome = true) :
    Calls Try.prog 9 #[.pointer (some ⟨N, 0, none⟩), .int .i64 s] w fun e w' => e = .returned (.tuple #[.int .i64 0, .int .i64 31]) ∧ w = w' := by
  have HA := Lib.hid h
  have HB := Lib.hid hb
  obtain ⟨c0, c1, c2⟩ := h.cells
  have hlook := h.look hs
  obtain ⟨v, hv⟩ : ∃ v, (g s).getD (.int .i64 0) = v := ⟨_, rfl⟩
  rw [hv, hc] at hlook
  clear h hb hv hc
  go_enter Try.func9, Try.ntmps9
  go_wp2_with fail
  refine (has_any HA.out s).mono ?_
  rintro e w2 ⟨rfl, rfl⟩
  rw [HB.out]
  go_wp2_with fail
  exact bodyPost_ret (v := .tuple #[.int .i64 0, .int .i64 31]) (by simp [results, Try.results9, go_sem]) rfl ⟨rfl, rfl⟩
set_option maxHeartbeats 8000000 in
set_option maxRecDepth 100000 in
theorem codeEnter_yes {w : World} {B N n bm sz : Nat} {g : Int → Option Value} {gl : Int} (h : CodeE w B N n bm g sz gl) (hsz : sz ≤ 1000) {s : Int} (hs : I64 s) (hb : hasB n s = true) (hc : (g s).isSome = false) :
    Calls Try.prog 9 #[.pointer (some ⟨N, 0, none⟩), .int .i64 s] w fun e w' => e = .returned (.tuple #[.int .i64 gl, .int .i64 0]) ∧ CodeE w' B N n bm (putK g s (some (.int .i64 gl))) (sz + 1) gl ∧ Only (footE N bm) w w' := by
  have HA := Lib.hid h
  have HB := Lib.hid hb
  obtain ⟨c0, c1, c2⟩ := h.cells
  have hlook := h.look hs
  have HKey := Lib.hid (keyI (P := Try.prog) Try.underlying3 hs.1 hs.2)
  obtain ⟨v, hv⟩ : ∃ v, (g s).getD (.int .i64 0) = v := ⟨_, rfl⟩
  rw [hv, hc] at hlook
  have HC := Lib.hid hc
  clear h hb hv hc hs
  go_enter Try.func9, Try.ntmps9
  go_wp2_with fail
  refine (has_any HA.out s).mono ?_
  rintro e w2 ⟨rfl, rfl⟩
  rw [HB.out]
  go_wp2_with fail
  refine wp_region_held_drew (S := (fun w' => w'.cell? { block := N, off := 1 } = some (.int .i64 gl) ∧ w'.cell? { block := N, off := 2 } = some (.map (some bm)))) (by kernel_rfl) ⟨c1, c2⟩ (fun hHeld => ?_)
  refine wpAnyH_take (i := 0) (v := ?_) (by simp only [List.getElem?_toArray, List.getElem?_cons_zero]; rfl) (by kernel_rfl) (by kernel_rfl) (by kernel_rfl) (by exact fun _ _ _ h => h) (Or.inl ⟨by rfl, ?_⟩) (by assumption) ?_
  rotate_left
  · intro w hSw; (try dsimp only at hSw); go_simp; (try with_reducible rfl)
  try simp only [Act.put, List.setIfInBounds_toArray, List.set_cons_zero, List.set_cons_succ]
  refine wpAnyH_take (i := 1) (v := ?_) (by simp only [List.getElem?_toArray, List.getElem?_cons_zero, List.getElem?_cons_succ]; rfl) (by kernel_rfl) (by kernel_rfl) (by kernel_rfl) (by exact fun _ _ _ h => h) (Or.inl ⟨by rfl, ?_⟩) (by assumption) ?_
  rotate_left
  · intro w hSw; (try dsimp only at hSw); go_simp; (try with_reducible rfl)
  try simp only [Act.put, List.setIfInBounds_toArray, List.set_cons_zero, List.set_cons_succ]
  refine wpAnyH_take (i := 2) (v := ?_) (by simp only [List.getElem?_toArray, List.getElem?_cons_zero, List.getElem?_cons_succ]; rfl) (by kernel_rfl) (by kernel_rfl) (by kernel_rfl) (by exact fun _ _ _ h => h) (Or.inl ⟨by rfl, ?_⟩) (by assumption) ?_
  rotate_left
  · intro w hSw; (try dsimp only at hSw); go_simp; (try with_reducible rfl)
  try simp only [Act.put, List.setIfInBounds_toArray, List.set_cons_zero, List.set_cons_succ]
  refine wpAnyH_take (i := 3) (v := ?_) (by simp only [List.getElem?_toArray, List.getElem?_cons_zero, List.getElem?_cons_succ]; rfl) (by kernel_rfl) (by kernel_rfl) (by kernel_rfl) (by exact fun _ _ _ h => h) (Or.inl ⟨by rfl, ?_⟩) (by assumption) ?_
  rotate_left
  · intro w hSw; (try dsimp only at hSw); go_simp; (try with_reducible rfl)
  try simp only [Act.put, List.setIfInBounds_toArray, List.set_cons_zero, List.set_cons_succ]
  refine wpAnyH_take (i := 4) (v := ?_) (by simp only [List.getElem?_toArray, List.getElem?_cons_zero, List.getElem?_cons_succ]; rfl) (by kernel_rfl) (by kernel_rfl) (by kernel_rfl) (by exact fun _ _ _ h => h) (Or.inl ⟨by rfl, ?_⟩) (by assumption) ?_
  rotate_left
  · intro w hSw; (try dsimp only at hSw); go_simp; (try with_reducible rfl)
  try simp only [Act.put, List.setIfInBounds_toArray, List.set_cons_zero, List.set_cons_succ]
  refine wpAnyH_take (i := 5) (v := ?_) (by simp only [List.getElem?_toArray, List.getElem?_cons_zero, List.getElem?_cons_succ]; rfl) (by kernel_rfl) (by kernel_rfl) (by kernel_rfl) (by exact fun _ _ _ h => h) (Or.inl ⟨by rfl, ?_⟩) (by assumption) ?_
  rotate_left
  · intro w hSw; (try dsimp only at hSw); go_simp; (try with_reducible rfl)
  try simp only [Act.put, List.setIfInBounds_toArray, List.set_cons_zero, List.set_cons_succ]
  refine wpAnyH_take (i := 6) (v := ?_) (by simp only [List.getElem?_toArray, List.getElem?_cons_zero, List.getElem?_cons_succ]; rfl) (by kernel_rfl) (by kernel_rfl) (by kernel_rfl) (by exact fun _ _ _ h => h) (Or.inl ⟨by rfl, ?_⟩) (by assumption) ?_
  rotate_left
  · intro w hSw; (try dsimp only at hSw); go_simp; (try with_reducible rfl)
  try simp only [Act.put, List.setIfInBounds_toArray, List.set_cons_zero, List.set_cons_succ]
  refine wpAnyH_take (i := 7) (v := ?_) (by simp only [List.getElem?_toArray, List.getElem?_cons_zero, List.getElem?_cons_succ]; rfl) (by kernel_rfl) (by kernel_rfl) (by kernel_rfl) (by exact fun _ _ _ h => h) (Or.inl ⟨by rfl, ?_⟩) (by assumption) ?_
  rotate_left
  · intro w hSw; (try dsimp only at hSw); go_simp; (try with_reducible rfl)
  try simp only [Act.put, List.setIfInBounds_toArray, List.set_cons_zero, List.set_cons_succ]
  refine wpAnyH_take (i := 8) (v := ?_) (by simp only [List.getElem?_toArray, List.getElem?_cons_zero, List.getElem?_cons_succ]; rfl) (by kernel_rfl) (by kernel_rfl) (by kernel_rfl) (by exact fun _ _ _ h => h) (Or.inl ⟨by rfl, ?_⟩) (by assumption) ?_
  rotate_left
  · intro w hSw; (try dsimp only at hSw); go_simp; (try with_reducible rfl)
  try simp only [Act.put, List.setIfInBounds_toArray, List.set_cons_zero, List.set_cons_succ]
  refine wpAnyH_ready (rs := [9]) (by kernel_rfl) (by simp) ?_
  refine AllReadyH.cons (by simp only [List.getElem?_toArray, List.getElem?_cons_zero, List.getElem?_cons_succ]; rfl) (fun K hK => ?_) AllReadyH.nil
  try rw [if_pos (by rfl)]
  refine wp_storeK _ _ _ _ rfl ((HA.out.mp.only (S := NoB) ((Only.refl _ w).drew) (fun h => h))) kInt_inj intKeyed Try.underlying49 (by unfold maxLen; omega) rfl (.int .i64 s) (.int .i64 gl) rfl rfl s HKey.out ?_
  intro w1 p1 o1
  rw [HC.out, if_neg (by decide)] at p1
  have o2 := (((Only.refl (fun b => b = bm) w).drew).trans o1 (fun x hx => .inl hx))
  have HD := Lib.hid (HA.out.put p1 o2)
  have HO := Lib.hid (o2.mono (T := footE N bm) (fun x hx => .inr hx))
  obtain ⟨d0, d1, d2⟩ := HD.out.cells
  clear p1 o1 o2
  refine hK.out _ _ ⟨d1, d2⟩ (fun hHeld => ?_)
  clear hK K
  simp only [Act.put]
  refine wpAnyH_done (by kernel_rfl) ?_ _
  go_wp2_with fail
  exact bodyPost_ret (v := .tuple #[.int .i64 gl, .int .i64 0]) (by simp [results, Try.results9, go_sem]) rfl ⟨rfl, HD.out, HO.out⟩
set_option maxHeartbeats 8000000 in
set_option maxRecDepth 100000 in
theorem codeLeave_no {w : World} {B N n bm sz : Nat} {g : Int → Option Value} {gl : Int} (h : CodeE w B N n bm g sz gl) {s : Int} (hs : I64 s) {c : Int} (he : enteredC n g s = c) (hc : c ≠ 0) :
    Calls Try.prog 11 #[.pointer (some ⟨N, 0, none⟩), .int .i64 s] w fun e w' => e = .returned (.int .i64 c) ∧ w = w' := by
  have HA := Lib.hid h
  have HS := Lib.hid hs
  have HE := Lib.hid he
  clear h he hs
  go_enter Try.func11, Try.ntmps11
  go_wp2_with fail
  refine (entered_any HA.out HS.out).mono ?_
  rintro e w2 ⟨rfl, rfl⟩
  rw [HE.out]
  go_wp2_with fail
  exact bodyPost_ret (v := .int .i64 c) (by simp [results, Try.results11, go_sem]) rfl ⟨rfl, rfl⟩
set_option maxHeartbeats 8000000 in
set_option maxRecDepth 100000 in
theorem codeRefresh_no {w : World} {B N n bm sz : Nat} {g : Int → Option Value} {gl : Int} (h : CodeE w B N n bm g sz gl) {s : Int} (hs : I64 s) {c : Int} (he : enteredC n g s = c) (hc : c ≠ 0) :
    Calls Try.prog 13 #[.pointer (some ⟨N, 0, none⟩), .int .i64 s] w fun e w' => e = .returned (.tuple #[.int .i64 0, .int .i64 c]) ∧ w = w' := by
  have HA := Lib.hid h
  have HS := Lib.hid hs
  have HE := Lib.hid he
  clear h he hs
  go_enter Try.func13, Try.ntmps13
  go_wp2_with fail
  refine (entered_any HA.out HS.out).mono ?_
  rintro e w2 ⟨rfl, rfl⟩
  rw [HE.out]
  go_wp2_with fail
  exact bodyPost_ret (v := .tuple #[.int .i64 0, .int .i64 c]) (by simp [results, Try.results13, go_sem]) rfl ⟨rfl, rfl⟩
set_option maxHeartbeats 8000000 in
set_option maxRecDepth 100000 in
theorem codeLeave_yes {w : World} {B N n bm sz : Nat} {g : Int → Option Value} {gl : Int} (h : CodeE w B N n bm g sz gl) {s : Int} (hs : I64 s) (he : enteredC n g s = 0) (hc : (g s).isSome = true) :
    Calls Try.prog 11 #[.pointer (some ⟨N, 0, none⟩), .int .i64 s] w fun e w' => e = .returned (.int .i64 0) ∧ CodeE w' B N n bm (putK g s none) (sz - 1) gl ∧ Only (footE N bm) w w' := by
  have HA := Lib.hid h
  have HS := Lib.hid hs
  have HE := Lib.hid he
  obtain ⟨c0, c1, c2⟩ := h.cells
  have HKey := Lib.hid (keyI (P := Try.prog) Try.underlying3 hs.1 hs.2)
  have HC := Lib.hid hc
  clear h he hs hc
  go_enter Try.func11, Try.ntmps11
  go_wp2_with fail
  refine (entered_any HA.out HS.out).mono ?_
  rintro e w2 ⟨rfl, rfl⟩
  rw [HE.out]
  go_wp2_with (at_delete; refine wpList_dropK rfl _ _ _ rfl HA.out.mp kInt_inj intKeyed Try.underlying49 rfl (.int .i64 s) rfl s HKey.out ?_; intro w1 p1 o1; rw [HC.out, if_pos rfl] at p1)
  have HD := Lib.hid (HA.out.put p1 o1)
  have HO := Lib.hid (o1.mono (T := footE N bm) (fun x hx => .inr hx))
  clear p1 o1
  go_wp2_with fail
  exact bodyPost_ret (v := .int .i64 0) (by simp [results, Try.results11, go_sem]) rfl ⟨rfl, HD.out, HO.out⟩
set_option maxHeartbeats 8000000 in
set_option maxRecDepth 100000 in
theorem codeRefresh_yes {w : World} {B N n bm sz : Nat} {g : Int → Option Value} {gl : Int} (h : CodeE w B N n bm g sz gl) (hsz : sz ≤ 1000) {s : Int} (hs : I64 s) (he : enteredC n g s = 0) (hc : (g s).isSome = true) :
    Calls Try.prog 13 #[.pointer (some ⟨N, 0, none⟩), .int .i64 s] w fun e w' => e = .returned (.tuple #[.int .i64 gl, .int .i64 0]) ∧ CodeE w' B N n bm (putK g s (some (.int .i64 gl))) sz gl ∧ Only (footE N bm) w w' := by
  have HA := Lib.hid h
  have HS := Lib.hid hs
  have HE := Lib.hid he
  obtain ⟨c0, c1, c2⟩ := h.cells
  have HKey := Lib.hid (keyI (P := Try.prog) Try.underlying3 hs.1 hs.2)
  have HC := Lib.hid hc
  clear h he hs hc
  go_enter Try.func13, Try.ntmps13
  go_wp2_with fail
  refine (entered_any HA.out HS.out).mono ?_
  rintro e w2 ⟨rfl, rfl⟩
  rw [HE.out]
  go_wp2_with fail
  refine wp_region_held_drew (S := (fun w' => w'.cell? { block := N, off := 1 } = some (.int .i64 gl) ∧ w'.cell? { block := N, off := 2 } = some (.map (some bm)))) (by kernel_rfl) ⟨c1, c2⟩ (fun hHeld => ?_)
  refine wpAnyH_take (i := 0) (v := ?_) (by simp only [List.getElem?_toArray, List.getElem?_cons_zero]; rfl) (by kernel_rfl) (by kernel_rfl) (by kernel_rfl) (by exact fun _ _ _ h => h) (Or.inl ⟨by rfl, ?_⟩) (by assumption) ?_
  rotate_left
  · intro w hSw; (try dsimp only at hSw); go_simp; (try with_reducible rfl)
  try simp only [Act.put, List.setIfInBounds_toArray, List.set_cons_zero, List.set_cons_succ]
  refine wpAnyH_take (i := 1) (v := ?_) (by simp only [List.getElem?_toArray, List.getElem?_cons_zero, List.getElem?_cons_succ]; rfl) (by kernel_rfl) (by kernel_rfl) (by kernel_rfl) (by exact fun _ _ _ h => h) (Or.inl ⟨by rfl, ?_⟩) (by assumption) ?_
  rotate_left
  · intro w hSw; (try dsimp only at hSw); go_simp; (try with_reducible rfl)
  try simp only [Act.put, List.setIfInBounds_toArray, List.set_cons_zero, List.set_cons_succ]
  refine wpAnyH_take (i := 2) (v := ?_) (by simp only [List.getElem?_toArray, List.getElem?_cons_zero, List.getElem?_cons_succ]; rfl) (by kernel_rfl) (by kernel_rfl) (by kernel_rfl) (by exact fun _ _ _ h => h) (Or.inl ⟨by rfl, ?_⟩) (by assumption) ?_
  rotate_left
  · intro w hSw; (try dsimp only at hSw); go_simp; (try with_reducible rfl)
  try simp only [Act.put, List.setIfInBounds_toArray, List.set_cons_zero, List.set_cons_succ]
  refine wpAnyH_take (i := 3) (v := ?_) (by simp only [List.getElem?_toArray, List.getElem?_cons_zero, List.getElem?_cons_succ]; rfl) (by kernel_rfl) (by kernel_rfl) (by kernel_rfl) (by exact fun _ _ _ h => h) (Or.inl ⟨by rfl, ?_⟩) (by assumption) ?_
  rotate_left
  · intro w hSw; (try dsimp only at hSw); go_simp; (try with_reducible rfl)
  try simp only [Act.put, List.setIfInBounds_toArray, List.set_cons_zero, List.set_cons_succ]
  refine wpAnyH_take (i := 4) (v := ?_) (by simp only [List.getElem?_toArray, List.getElem?_cons_zero, List.getElem?_cons_succ]; rfl) (by kernel_rfl) (by kernel_rfl) (by kernel_rfl) (by exact fun _ _ _ h => h) (Or.inl ⟨by rfl, ?_⟩) (by assumption) ?_
  rotate_left
  · intro w hSw; (try dsimp only at hSw); go_simp; (try with_reducible rfl)
  try simp only [Act.put, List.setIfInBounds_toArray, List.set_cons_zero, List.set_cons_succ]
  refine wpAnyH_take (i := 5) (v := ?_) (by simp only [List.getElem?_toArray, List.getElem?_cons_zero, List.getElem?_cons_succ]; rfl) (by kernel_rfl) (by kernel_rfl) (by kernel_rfl) (by exact fun _ _ _ h => h) (Or.inl ⟨by rfl, ?_⟩) (by assumption) ?_
  rotate_left
  · intro w hSw; (try dsimp only at hSw); go_simp; (try with_reducible rfl)
  try simp only [Act.put, List.setIfInBounds_toArray, List.set_cons_zero, List.set_cons_succ]
  refine wpAnyH_take (i := 6) (v := ?_) (by simp only [List.getElem?_toArray, List.getElem?_cons_zero, List.getElem?_cons_succ]; rfl) (by kernel_rfl) (by kernel_rfl) (by kernel_rfl) (by exact fun _ _ _ h => h) (Or.inl ⟨by rfl, ?_⟩) (by assumption) ?_
  rotate_left
  · intro w hSw; (try dsimp only at hSw); go_simp; (try with_reducible rfl)
  try simp only [Act.put, List.setIfInBounds_toArray, List.set_cons_zero, List.set_cons_succ]
  refine wpAnyH_take (i := 7) (v := ?_) (by simp only [List.getElem?_toArray, List.getElem?_cons_zero, List.getElem?_cons_succ]; rfl) (by kernel_rfl) (by kernel_rfl) (by kernel_rfl) (by exact fun _ _ _ h => h) (Or.inl ⟨by rfl, ?_⟩) (by assumption) ?_
  rotate_left
  · intro w hSw; (try dsimp only at hSw); go_simp; (try with_reducible rfl)
  try simp only [Act.put, List.setIfInBounds_toArray, List.set_cons_zero, List.set_cons_succ]
  refine wpAnyH_take (i := 8) (v := ?_) (by simp only [List.getElem?_toArray, List.getElem?_cons_zero, List.getElem?_cons_succ]; rfl) (by kernel_rfl) (by kernel_rfl) (by kernel_rfl) (by exact fun _ _ _ h => h) (Or.inl ⟨by rfl, ?_⟩) (by assumption) ?_
  rotate_left
  · intro w hSw; (try dsimp only at hSw); go_simp; (try with_reducible rfl)
  try simp only [Act.put, List.setIfInBounds_toArray, List.set_cons_zero, List.set_cons_succ]
  refine wpAnyH_ready (rs := [9]) (by kernel_rfl) (by simp) ?_
  refine AllReadyH.cons (by simp only [List.getElem?_toArray, List.getElem?_cons_zero, List.getElem?_cons_succ]; rfl) (fun K hK => ?_) AllReadyH.nil
  try rw [if_pos (by rfl)]
  refine wp_storeK _ _ _ _ rfl ((HA.out.mp.only (S := NoB) ((Only.refl _ w).drew) (fun h => h))) kInt_inj intKeyed Try.underlying49 (by unfold maxLen; omega) rfl (.int .i64 s) (.int .i64 gl) rfl rfl s HKey.out ?_
  intro w1 p1 o1
  rw [HC.out, if_pos rfl] at p1
  have o2 := (((Only.refl (fun b => b = bm) w).drew).trans o1 (fun x hx => .inl hx))
  have HD := Lib.hid (HA.out.put p1 o2)
  have HO := Lib.hid (o2.mono (T := footE N bm) (fun x hx => .inr hx))
  obtain ⟨d0, d1, d2⟩ := HD.out.cells
  clear p1 o1 o2
  refine hK.out _ _ ⟨d1, d2⟩ (fun hHeld => ?_)
  clear hK K
  simp only [Act.put]
  refine wpAnyH_done (by kernel_rfl) ?_ _
  go_wp2_with fail
  exact bodyPost_ret (v := .tuple #[.int .i64 gl, .int .i64 0]) (by simp [results, Try.results13, go_sem]) rfl ⟨rfl, HD.out, HO.out⟩
end Go.Proofs.Ytcklafaoijodbaa
