/- 'make([]byte, n)', in a region that draws too; slices of bytes in a literal. -/
import Derived.Test.YtebebbehiegleaaLitG
import Derived.OwnWalk
import Derived.Laws.OwnMore
set_option linter.unusedVariables false
namespace Go.Proofs.Ytebebbehiegleaa
open Go Go.RowKit

theorem madeB (n : Nat) : (madeCells (Value.int .u8 0).cells (n * 1)).toList = (List.replicate n (0 : UInt8)).flatMap layB.enc := by
  rw [layB_flat, List.map_replicate]
  have : (madeCells (Value.int .u8 0).cells (n * 1)).toList = (List.range n).map (fun j => (#[Value.int .u8 0] : Array Value)[j % 1]!) := by simp [madeCells, Value.cells]
  rw [this]
  apply List.ext_getElem
  · simp
  · intro i h1 h2
    simp [Nat.mod_one]
theorem run_makeB (w : World) (n : Nat) (hn : n ≤ 1000000) : ∃ w', (Instr.makeSlice 29 (.int .i64 (n : Int)) (.int .i64 (n : Int))).run Try.prog w = .ok (.slice (some ⟨w.heap.size, 0, none⟩) n n) w' ∧
    layB.Rd w' (some ⟨w.heap.size, 0, none⟩) (List.replicate n 0) ∧ Below w.heap.size w w' ∧ w.heap.size < w'.heap.size := by
  have h : (Try.prog.info? 5).map (fun i => (i.zero, i.size, i.bytes)) = some (some (.int .u8 0), 1, 1) := by kernel_rfl
  cases hi : Try.prog.info? 5 with
  | none => rw [hi] at h; cases h
  | some i =>
    rw [hi] at h
    simp only [Option.map_some, Option.some.injEq, Prod.mk.injEq] at h
    obtain ⟨w', h1, h2, h3⟩ := run_make_full (P := Try.prog) w w.heap.size 29 5 i _ 1 Try.underlying29 hi h.1 h.2.1 .i64 .i64 n (by rw [h.2.2]; omega) (by unfold maxLen; omega) (Nat.le_refl _)
    rw [madeB] at h2
    have hrow : layB.Row 5 w' w.heap.size (.slice (some ⟨w.heap.size, 0, none⟩) n n) n (List.replicate n 0) := h2
    obtain ⟨A, c, e, _, hr, _, _⟩ := hrow.rd
    injection e with e1 e2 e3
    subst e1
    exact ⟨w', h1, hr, (Below.refl _ _).grown h3 (Nat.le_refl _) (fun g hg => by cases hg), (hrow.lt _ rfl).2⟩
theorem wp_makeB {w : World} {o : Oper} {a : Act} {K : Act → World → Prop} {Q : Exit → Act → World → Prop} (l c : Operand) (hop : o.op = Op.makeSlice 29 l c) (n : Nat) (hl : a.eval l = .int .i64 (n : Int)) (hc : a.eval c = .int .i64 (n : Int)) (hn : n ≤ 1000000)
    (h : ∀ w', layB.Rd w' (some ⟨w.heap.size, 0, none⟩) (List.replicate n 0) → Below w.heap.size w w' → w.heap.size < w'.heap.size → K (a.put o.dst (.slice (some ⟨w.heap.size, 0, none⟩) n n)) w') : o.wp Try.prog a w K Q := by
  obtain ⟨w', h1, h2, h3, h4⟩ := run_makeB w n hn
  unfold Oper.wp
  simp [execOp, hop, hl, hc, h1, Result.andThen]
  exact h w' h2 h3 h4
theorem wpList_makeB {w : World} {ops : Array Oper} {rest : List Oper} {o : Oper} {a : Act} {Q : Exit → Act → World → Prop} (hg : o.guard = none) (l c : Operand) (hop : o.op = Op.makeSlice 29 l c) (n : Nat) (hl : a.eval l = .int .i64 (n : Int)) (hc : a.eval c = .int .i64 (n : Int)) (hn : n ≤ 1000000)
    (h : ∀ w', layB.Rd w' (some ⟨w.heap.size, 0, none⟩) (List.replicate n 0) → Below w.heap.size w w' → w.heap.size < w'.heap.size → wpList Try.prog ops Q rest (a.put o.dst (.slice (some ⟨w.heap.size, 0, none⟩) n n)) w') : wpList Try.prog ops Q (o :: rest) a w :=
  wpList_plain hg fun K hK => wp_makeB l c hop n hl hc hn (fun w' h1 h2 h3 => hK _ _ (h w' h1 h2 h3))
end Go.Proofs.Ytebebbehiegleaa
