/- The code's disk and the document's side by side, and an act in a block of its own. -/
import Derived.Test.YtebebbehiegleaaDiHold
import Derived.Test.YtebebbehiegleaaOpenK
import Derived.Laws.Tables
set_option linter.unusedVariables false
namespace Go.Proofs.Ytebebbehiegleaa
open Go Go.RowKit

abbrev DuoD (C : DiSpec) (w0 W : World) (B1 N1 n B2 N2 : Nat) (vS vR : Value) (sf rs : List UInt8) (S : Nat → Prop) : Prop :=
  Duo w0 W (fun W => C.At W B1 N1 n (sf ++ rs) sf.length S) (fun W => RefK W B2 N2 n vS vR sf rs) S (footK N2 vS vR)
section
variable {C : DiSpec} {w0 W W' : World} {B1 N1 n B2 N2 : Nat} {vS vR vS' vR' : Value} {sf rs sf' rs' : List UInt8} {S S' : Nat → Prop}
theorem DuoD.below (h : DuoD C w0 W B1 N1 n B2 N2 vS vR sf rs S) (hb : Below W.heap.size W W') : DuoD C w0 W' B1 N1 n B2 N2 vS vR sf rs S := Duo.below h (C.st _ _ _ _ _ _) (RefK.st _ _ _ _ _ _ _) hb
/-- Both moved, the code's first. -/
theorem DuoD.moves {W2 : World} (h : DuoD C w0 W B1 N1 n B2 N2 vS vR sf rs S) (ha : C.At W' B1 N1 n (sf' ++ rs') sf'.length S') (m : Moved S S' W W') (hr : RefK W' B2 N2 n vS vR sf rs → RefK W2 B2 N2 n vS' vR' sf' rs') (ho : RefK W' B2 N2 n vS vR sf rs → Moved (footK N2 vS vR) (footK N2 vS' vR') W' W2) :
    DuoD C w0 W2 B1 N1 n B2 N2 vS' vR' sf' rs' S' := by
  have h1 := Duo.moveA (R' := fun W => C.At W B1 N1 n (sf' ++ rs') sf'.length S') h (RefK.st _ _ _ _ _ _ _) ha (fun k hk => (C.foot ha k hk).2) m
  have hr2 := hr h1.b
  exact Duo.moveB (R' := fun W => RefK W B2 N2 n vS' vR' sf' rs') h1 (C.st _ _ _ _ _ _) hr2 (fun k hk => (hr2.foot_lt k hk).2) (ho h1.b)
/-- .. the document's first. -/
theorem DuoD.moves2 {W2 : World} (h : DuoD C w0 W B1 N1 n B2 N2 vS vR sf rs S) (hr : RefK W' B2 N2 n vS' vR' sf' rs') (m : Moved (footK N2 vS vR) (footK N2 vS' vR') W W') (ha : C.At W' B1 N1 n (sf ++ rs) sf.length S → C.At W2 B1 N1 n (sf' ++ rs') sf'.length S' ∧ Moved S S' W' W2) :
    DuoD C w0 W2 B1 N1 n B2 N2 vS' vR' sf' rs' S' := by
  have h1 := Duo.moveB (R' := fun W => RefK W B2 N2 n vS' vR' sf' rs') h (C.st _ _ _ _ _ _) hr (fun k hk => (hr.foot_lt k hk).2) m
  obtain ⟨a2, m2⟩ := ha h1.a
  exact Duo.moveA (R' := fun W => C.At W B1 N1 n (sf' ++ rs') sf'.length S') h1 (RefK.st _ _ _ _ _ _ _) a2 (fun k hk => (C.foot a2 k hk).2) m2
end
theorem Moved.orL {S S' F : Nat → Prop} {w w' : World} (m : Moved S S' w w') : Moved (fun x => S x ∨ F x) (fun x => S' x ∨ F x) w w' :=
  ⟨m.1.mono (fun x hx => .inl hx), fun k hk => by
    rcases hk with h | h
    · rcases m.2 k h with h1 | h1
      · exact .inl (.inl h1)
      · exact .inr h1
    · exact .inl (.inr h)⟩
theorem Moved.orR {S S' F : Nat → Prop} {w w' : World} (m : Moved S S' w w') : Moved (fun x => F x ∨ S x) (fun x => F x ∨ S' x) w w' :=
  ⟨m.1.mono (fun x hx => .inr hx), fun k hk => by
    rcases hk with h | h
    · exact .inl (.inl h)
    · rcases m.2 k h with h1 | h1
      · exact .inl (.inr h1)
      · exact .inr h1⟩
/-- An act in a block of its own, apart from blocks of S. -/
def BoxK (W : World) (bx : Nat) (z : ActK) (S : Nat → Prop) : Prop := W.heap[bx]? = some (.cells #[.int .i64 z.kind, .int .i64 z.num, .slice z.adr z.bss.length z.cap] 34 (0, 0)) ∧ ¬ S bx
theorem BoxK.lt {W : World} {bx : Nat} {z : ActK} {S : Nat → Prop} (h : BoxK W bx z S) : bx < W.heap.size := (Array.getElem?_eq_some_iff.1 h.1).1
theorem BoxK.moved {W W' : World} {bx : Nat} {z : ActK} {S S' : Nat → Prop} (h : BoxK W bx z S) (m : Moved S S' W W') : BoxK W' bx z S' :=
  ⟨(m.1.block bx h.lt h.2).trans h.1, fun hs => by
    rcases m.2 bx hs with h1 | h1
    · exact h.2 h1
    · have := h.lt; omega⟩
theorem BoxK.only {W W' : World} {bx : Nat} {z : ActK} {S T : Nat → Prop} (h : BoxK W bx z S) (ho : Only T W W') (hT : ¬ T bx) : BoxK W' bx z S := ⟨(ho.block bx h.lt hT).trans h.1, h.2⟩
theorem BoxK.below {W W' : World} {bx : Nat} {z : ActK} {S : Nat → Prop} (h : BoxK W bx z S) (hb : Below W.heap.size W W') : BoxK W' bx z S := ⟨(hb.block bx h.lt).trans h.1, h.2⟩
theorem BoxK.cells {W : World} {bx : Nat} {z : ActK} {S : Nat → Prop} (h : BoxK W bx z S) : W.cell? { block := bx, off := 0 } = some (.int .i64 z.kind) ∧ W.cell? { block := bx, off := 1 } = some (.int .i64 z.num) ∧ W.cell? { block := bx, off := 2 } = some (.slice z.adr z.bss.length z.cap) := by
  refine ⟨?_, ?_, ?_⟩
  · rw [cell_of_row W bx 0 _ _ (0, 0) h.1]; rfl
  · rw [cell_of_row W bx 1 _ _ (0, 0) h.1]; rfl
  · rw [cell_of_row W bx 2 _ _ (0, 0) h.1]; rfl
end Go.Proofs.Ytebebbehiegleaa
