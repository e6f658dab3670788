/- What the walks of the statements of layer 3 lean on. -/
import Derived.Test.YtgacphpkgaobkaaDoorPropAwake
import Derived.Test.YtgacphpkgaobkaaDoorPropGetMath
import Derived.Test.YtgacphpkgaobkaaDoorOpenP
import Derived.Test.YtgacphpkgaobkaaDoorPropSmall
set_option linter.unusedVariables false
namespace Go.Proofs.YtgacphpkgaobkaaDoor
open Go Go.RowKit

/-- A block that holds just this value, and may be written. -/
def HoldV (W : World) (N : Nat) (z : Val3) : Prop := W.heap[N]? = some (.cells #[.int .i64 z.1, .int .i64 z.2.1, .string z.2.2] 36 (0, 0))
theorem HoldV.new (w : World) (k n : Int) (s : ByteArray) : HoldV (w.alloc (.cells #[.int .i64 k, .int .i64 n, .string s] 36)) w.heap.size (k, n, s) := heap_alloc_new w _
theorem HoldV.at {W : World} {N : Nat} {z : Val3} (h : HoldV W N z) : (W.cell? { block := N, off := 0 } = some (.int .i64 z.1) ∧ W.cell? { block := N, off := 1 } = some (.int .i64 z.2.1) ∧ W.cell? { block := N, off := 2 } = some (.string z.2.2)) ∧
    W.frozen? { block := N, off := 0 } = false ∧ W.frozen? { block := N, off := 1 } = false ∧ W.frozen? { block := N, off := 2 } = false := by
  unfold HoldV at h
  refine ⟨⟨?_, ?_, ?_⟩, ?_, ?_, ?_⟩
  · rw [cell_of_row W N 0 _ _ (0, 0) h]; rfl
  · rw [cell_of_row W N 1 _ _ (0, 0) h]; rfl
  · rw [cell_of_row W N 2 _ _ (0, 0) h]; rfl
  all_goals exact frozen_of_row W N _ _ _ h
theorem HoldV.block {W W' : World} {N : Nat} {z : Val3} (h : HoldV W N z) (e : W'.heap[N]? = W.heap[N]?) : HoldV W' N z := e.trans h
theorem HoldV.lt {W : World} {N : Nat} {z : Val3} (h : HoldV W N z) : N < W.heap.size := (Array.getElem?_eq_some_iff.1 h).1
theorem HoldV.below {W W' : World} {B N : Nat} {z : Val3} (h : HoldV W N z) (hb : Below B W W') (hN : N < B) : HoldV W' N z := h.block (hb.block N hN)
def put3 (W : World) (N : Nat) (z : Val3) : World := ((W.setCell { block := N, off := 0 } (.int .i64 z.1)).setCell { block := N, off := 1 } (.int .i64 z.2.1)).setCell { block := N, off := 2 } (.string z.2.2)
theorem HoldV.set3 {W : World} {N : Nat} {z : Val3} (h : HoldV W N z) (y : Val3) : HoldV (put3 W N y) N y := by
  have h0 := heap_setCell_same W N 0 _ _ (.int .i64 y.1) h
  have h1 := heap_setCell_same _ N 1 _ _ (.int .i64 y.2.1) h0
  exact heap_setCell_same _ N 2 _ _ (.string y.2.2) h1
theorem HoldV.put_other {W : World} {N M : Nat} {z y : Val3} (h : HoldV W N z) (hne : N ≠ M) : HoldV (put3 W M y) N z := by
  refine h.block ?_
  unfold put3
  rw [Below.heap_setCell _ _ _ N hne, Below.heap_setCell _ _ _ N hne, Below.heap_setCell _ _ _ N hne]
theorem below_put3 {B : Nat} {w W : World} {N : Nat} (h : Below B w W) (hN : B ≤ N) (y : Val3) : Below B w (put3 W N y) :=
  ((h.setCell (p := ⟨N, 0, none⟩) hN _).setCell (p := ⟨N, 1, none⟩) hN _).setCell (p := ⟨N, 2, none⟩) hN _
theorem small_mem {zs : List Prop4} (h : smallP zs = true) : zs.length ≤ 40 ∧ ∀ z ∈ zs, z.1.size ≤ 300 ∧ z.2.2.2.size ≤ 300 := by
  rw [smallP_eq, Bool.and_eq_true, decide_eq_true_iff] at h
  refine ⟨h.1, fun z hz => ?_⟩
  have h1 := List.all_eq_true.1 h.2 z hz
  unfold sizeK at h1
  rwa [Bool.and_eq_true, decide_eq_true_iff, decide_eq_true_iff] at h1
theorem small_big {zs : List Prop4} (h : smallP zs = true) : ∀ z ∈ zs, z.1.size ≤ 1000000 ∧ z.2.2.2.size ≤ 1000000 := fun z hz => by
  have := (small_mem h).2 z hz
  omega
theorem setFrom_mem : ∀ (ys acc x : List Prop4), setFrom acc ys = (0, x) → ∀ z ∈ x, z ∈ acc ∨ z ∈ ys
  | [], acc, x, h => by
    unfold setFrom at h
    by_cases hl : acc.length ≤ 16
    · rw [if_pos hl] at h
      obtain rfl : acc = x := by injection h
      exact fun z hz => .inl hz
    · rw [if_neg hl] at h
      exact absurd (show (32 : Int) = 0 from congrArg Prod.fst h) (by decide)
  | y :: r, acc, x, h => by
    by_cases hf : faultP (y :: r) = 0
    · rw [setFrom_step hf] at h
      intro z hz
      rcases setFrom_mem r _ x h z hz with h1 | h1
      · rcases putFrom_mem _ _ _ _ h1 with h2 | h2
        · exact .inl h2
        · exact .inr (by rw [h2]; exact List.mem_cons_self)
      · exact .inr (List.mem_cons_of_mem _ h1)
    · rw [setFrom_bad _ _ hf] at h
      exact absurd (congrArg Prod.fst h) hf
theorem setP_mem {zs ys x : List Prop4} (h : setP zs ys = (0, x)) : ∀ z ∈ x, z ∈ zs ∨ z ∈ ys := by
  unfold setP at h
  by_cases hr : rightP zs = true
  · rw [if_pos hr] at h
    exact setFrom_mem ys zs x h
  · rw [if_neg hr] at h
    exact absurd (show (2 : Int) = 0 from congrArg Prod.fst h) (by decide)
theorem setP_big {zs ys x : List Prop4} (h : setP zs ys = (0, x)) (hz : smallP zs = true) (hy : smallP ys = true) : ∀ z ∈ x, z.1.size ≤ 1000000 ∧ z.2.2.2.size ≤ 1000000 := fun z hx => by
  rcases setP_mem h z hx with h1 | h1
  · exact small_big hz z h1
  · exact small_big hy z h1
theorem dropP_mem {zs : List Prop4} {keys : List ByteArray} : ∀ z ∈ dropP zs keys, z ∈ zs := fun z hz => (List.mem_filter.1 hz).1
/-- A new block with one text: a slice of it. -/
theorem RdS.one (w : World) (s : ByteArray) (W : World) (hW : W = w.alloc (.cells #[.string s] 9)) : RdS W (some ⟨w.heap.size, 0, none⟩) [s] := by
  subst hW
  intro k hk
  obtain rfl : k = 0 := by simpa using hk
  refine ⟨_, rfl, by simp, ?_⟩
  simp [Addr.add, World.cell?_alloc_mark]
theorem below_nil {B : Nat} {a w : World} (h : Below B a w) (hB : B ≤ w.heap.size) (k n : Int) (s : ByteArray) : Below B a (w.alloc (.cells #[.int .i64 k, .int .i64 n, .string s] 36)) := h.alloc hB _
end Go.Proofs.YtgacphpkgaobkaaDoor
