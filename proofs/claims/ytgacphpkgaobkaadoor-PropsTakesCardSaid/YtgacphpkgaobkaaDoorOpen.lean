/- How a law's slices come in: what a walk is told of them. -/
import Derived.Test.YtgacphpkgaobkaaDoorNames
import Derived.Test.YtgacphpkgaobkaaDoorRows
import Derived.ProofKit
import Derived.OpenShut
import Derived.ShutString
import Derived.ChangeOld
import Derived.Below
set_option linter.unusedVariables false
namespace Go.Proofs.YtgacphpkgaobkaaDoor
open Go Go.RowKit Go.WideShapes Go.ChangeShapes

theorem own : ownKnob Tryd.prog.godebug = none := by kernel_rfl
theorem laidOut : laidOutB Tryd.prog = true := by kernel_rfl

theorem block_lt {w : World} {p : Addr} {v : Value} (h : w.cell? p = some v) : p.block < w.heap.size := by
  rcases Nat.lt_or_ge p.block w.heap.size with h1 | h1
  · exact h1
  · unfold World.cell? at h
    rw [Array.getElem?_eq_none h1] at h
    simp at h
theorem add_block (a : Addr) (k : Nat) : (a.add k).block = a.block := by unfold Addr.add; split <;> rfl

/-- A slice of runes that came in. -/
def Slc (w : World) (a : Option Addr) (l c : Nat) (z : List Int) : Prop := z.length = l ∧ l ≤ c ∧ Rd w a z ∧ ∀ n ∈ z, -2147483648 ≤ n ∧ n ≤ 2147483647
theorem Slc.none_ (w : World) : Slc w none 0 0 [] := ⟨rfl, Nat.le_refl _, fun k hk => by simp at hk, fun n hn => by cases hn⟩
theorem Slc.some_ {w : World} {x : Addr} {l c : Nat} {zs : List Int} (hl : l ≤ c) (hm : c ≤ maxLen) (hz : zs.length = c) (hcell : ∀ i, i < zs.length → w.cell? (x.add i) = some (.int .i32 (zs.getD i 0))) (hw : ∀ n ∈ zs, (Lit.int .i32 n).wf = true) :
    Slc w (some x) l c (zs.take l) := by
  refine ⟨by rw [List.length_take]; omega, hl, fun k hk => ?_, fun n hn => bounds_i32 (hw n (List.mem_of_mem_take hn))⟩
  rw [List.length_take] at hk
  have h1 := hcell k (by omega)
  refine ⟨x, rfl, by have := block_lt h1; rw [add_block] at this; exact this, ?_⟩
  rw [h1, List.getD_eq_getElem?_getD, List.getD_eq_getElem?_getD, List.getElem?_take, if_pos (by omega)]

/-- A slice of texts that came in. -/
def SlcS (w : World) (a : Option Addr) (l c : Nat) (z : List ByteArray) : Prop := z.length = l ∧ l ≤ c ∧ RdS w a z ∧ ∀ s ∈ z, s.size ≤ maxLen
theorem SlcS.none_ (w : World) : SlcS w none 0 0 [] := ⟨rfl, Nat.le_refl _, fun k hk => by simp at hk, fun n hn => by cases hn⟩
theorem SlcS.some_ {w : World} {x : Addr} {l c : Nat} {zs : List ByteArray} (hl : l ≤ c) (hm : c ≤ maxLen) (hz : zs.length = c) (hcell : ∀ i, i < zs.length → w.cell? (x.add i) = some (.string (zs.getD i ByteArray.empty))) (hw : ∀ n ∈ zs, n.size ≤ maxLen) :
    SlcS w (some x) l c (zs.take l) := by
  refine ⟨by rw [List.length_take]; omega, hl, fun k hk => ?_, fun n hn => hw n (List.mem_of_mem_take hn)⟩
  rw [List.length_take] at hk
  have h1 := hcell k (by omega)
  refine ⟨x, rfl, by have := block_lt h1; rw [add_block] at this; exact this, ?_⟩
  rw [h1, List.getD_eq_getElem?_getD, List.getD_eq_getElem?_getD, List.getElem?_take, if_pos (by omega)]
end Go.Proofs.YtgacphpkgaobkaaDoor
