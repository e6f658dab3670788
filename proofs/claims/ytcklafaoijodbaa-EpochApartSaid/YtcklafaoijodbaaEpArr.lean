/- A table of epochs, and two arrays of five beside it. -/
import Derived.Test.YtcklafaoijodbaaEpMath
set_option linter.unusedVariables false
namespace Go.Proofs.Ytcklafaoijodbaa
open Go Go.RowKit

def vsI (xs : List Int) : Array Value := (xs.map (fun x => Value.int .i64 x)).toArray
def vsB (xs : List Bool) : Array Value := (xs.map (fun x => Value.bool x)).toArray
structure ArrsM (C : EpSpec) (w0 : World) (B N : Nat) (w : World) (gl : Int) (ins : List Int) (S : Nat → Prop) (b8 b9 : Nat) (was : List Int) (inn : List Bool) : Prop where
  m : EpM C w0 B N w gl ins S
  h8 : w.heap[b8]? = some (.cells (vsI was) 44 (0, 0))
  h9 : w.heap[b9]? = some (.cells (vsB inn) 45 (0, 0))
  n8 : ¬ S b8
  n9 : ¬ S b9
  d : b8 ≠ b9
  l8 : w0.heap.size ≤ b8
  l9 : w0.heap.size ≤ b9
section
variable {C : EpSpec} {w0 : World} {B N : Nat} {w w' : World} {gl : Int} {ins : List Int} {S : Nat → Prop} {b8 b9 : Nat} {was : List Int} {inn : List Bool}
theorem ArrsM.lt (h : ArrsM C w0 B N w gl ins S b8 b9 was inn) : b8 < w.heap.size ∧ b9 < w.heap.size := ⟨(Array.getElem?_eq_some_iff.1 h.h8).1, (Array.getElem?_eq_some_iff.1 h.h9).1⟩
theorem ArrsM.below (h : ArrsM C w0 B N w gl ins S b8 b9 was inn) (hb : Below w.heap.size w w') : ArrsM C w0 B N w' gl ins S b8 b9 was inn :=
  ⟨h.m.below hb, (hb.block _ h.lt.1).trans h.h8, (hb.block _ h.lt.2).trans h.h9, h.n8, h.n9, h.d, h.l8, h.l9⟩
theorem ArrsM.move (h : ArrsM C w0 B N w gl ins S b8 b9 was inn) {gl' : Int} {ins' : List Int} {S' : Nat → Prop} (ha : C.At w' B N gl' ins' S') (m : Moved S S' w w') (g : GoodT gl' ins') : ArrsM C w0 B N w' gl' ins' S' b8 b9 was inn :=
  ⟨h.m.move ha m g, (m.1.block _ h.lt.1 h.n8).trans h.h8, (m.1.block _ h.lt.2 h.n9).trans h.h9, fun hs => (m.2 _ hs).elim h.n8 (fun h2 => by have := h.lt.1; omega), fun hs => (m.2 _ hs).elim h.n9 (fun h2 => by have := h.lt.2; omega), h.d, h.l8, h.l9⟩
theorem ArrsM.cell8 (h : ArrsM C w0 B N w gl ins S b8 b9 was inn) {k : Nat} (hk : k < was.length) : w.cell? ⟨b8, k, none⟩ = some (.int .i64 (was.getD k default)) ∧ w.frozen? ⟨b8, k, none⟩ = false := by
  refine ⟨?_, frozen_of_row w b8 k _ _ h.h8⟩
  rw [cell_of_row w b8 k _ _ (0, 0) h.h8]
  simp [vsI, List.getD_eq_getElem?_getD, List.getElem?_eq_getElem hk]
theorem ArrsM.cell9 (h : ArrsM C w0 B N w gl ins S b8 b9 was inn) {k : Nat} (hk : k < inn.length) : w.cell? ⟨b9, k, none⟩ = some (.bool (inn.getD k default)) ∧ w.frozen? ⟨b9, k, none⟩ = false := by
  refine ⟨?_, frozen_of_row w b9 k _ _ h.h9⟩
  rw [cell_of_row w b9 k _ _ (0, 0) h.h9]
  simp [vsB, List.getD_eq_getElem?_getD, List.getElem?_eq_getElem hk]
theorem ArrsM.set8 (h : ArrsM C w0 B N w gl ins S b8 b9 was inn) (k : Nat) (x : Int) : ArrsM C w0 B N (w.setCell ⟨b8, k, none⟩ (.int .i64 x)) gl ins S b8 b9 (was.set k x) inn := by
  have ho : Only (fun b => b = b8) w (w.setCell ⟨b8, k, none⟩ (.int .i64 x)) := Only.setCell (S := fun b => b = b8) (p := ⟨b8, k, none⟩) (Only.refl _ w) (.inl rfl) _
  refine ⟨⟨C.only h.m.a ho (fun b hb e => by subst e; exact h.n8 hb), h.m.good, h.m.lo, h.m.bel.trans (ho.below h.m.bel.size (fun b hb => by subst hb; exact h.l8))⟩, ?_, (ho.block _ h.lt.2 (fun e => h.d e.symm)).trans h.h9, h.n8, h.n9, h.d, h.l8, h.l9⟩
  rw [heap_setCell_same w b8 k _ _ _ h.h8]
  simp [vsI, List.map_set]
theorem ArrsM.set9 (h : ArrsM C w0 B N w gl ins S b8 b9 was inn) (k : Nat) (x : Bool) : ArrsM C w0 B N (w.setCell ⟨b9, k, none⟩ (.bool x)) gl ins S b8 b9 was (inn.set k x) := by
  have ho : Only (fun b => b = b9) w (w.setCell ⟨b9, k, none⟩ (.bool x)) := Only.setCell (S := fun b => b = b9) (p := ⟨b9, k, none⟩) (Only.refl _ w) (.inl rfl) _
  refine ⟨⟨C.only h.m.a ho (fun b hb e => by subst e; exact h.n9 hb), h.m.good, h.m.lo, h.m.bel.trans (ho.below h.m.bel.size (fun b hb => by subst hb; exact h.l9))⟩, (ho.block _ h.lt.1 (fun e => h.d e)).trans h.h8, ?_, h.n8, h.n9, h.d, h.l8, h.l9⟩
  rw [heap_setCell_same w b9 k _ _ _ h.h9]
  simp [vsB, List.map_set]
end
/-- What the arrays have, of the first k sessions. -/
def Saw (ins : List Int) (k : Nat) (was : List Int) (inn : List Bool) : Prop := was.length = 5 ∧ inn.length = 5 ∧ ∀ j, j < k → was.getD j default = (inR ins (j : Int)).1 ∧ inn.getD j default = (inR ins (j : Int)).2
theorem Saw.next {ins : List Int} {k : Nat} {was : List Int} {inn : List Bool} (h : Saw ins k was inn) (hk : k < 5) : Saw ins (k + 1) (was.set k (inR ins (k : Int)).1) (inn.set k (inR ins (k : Int)).2) := by
  obtain ⟨h1, h2, h3⟩ := h
  refine ⟨by rw [List.length_set]; exact h1, by rw [List.length_set]; exact h2, fun j hj => ?_⟩
  by_cases e : j = k
  · subst e
    simp [List.getD_eq_getElem?_getD, h1, h2, hk]
  · have := h3 j (by omega)
    rw [List.getD_eq_getElem?_getD, List.getD_eq_getElem?_getD, List.getElem?_set_ne (fun e2 => e e2.symm), List.getElem?_set_ne (fun e2 => e e2.symm), ← List.getD_eq_getElem?_getD, ← List.getD_eq_getElem?_getD]
    exact this
theorem leaveR_ok (gl : Int) (ins : List Int) (s : Int) : (leaveR gl ins s true).2.1 = 0 → (leaveR gl ins s true).1 = gl := by
  unfold leaveR
  split
  · intro h; cases h
  · split
    · intro h; cases h
    · intro _; rfl
theorem adv_up (gl : Int) (ins : List Int) : gl ≤ (advR gl ins).2.2 := by
  unfold advR
  split
  · exact Int.le_refl _
  · split
    · exact Int.le_refl _
    · show gl ≤ gl + 1
      omega
/-- Another session's epoch stays. -/
theorem inR_set {ins : List Int} {n : Nat} {x : Int} {j : Nat} (h : j ≠ n) : inR (ins.set n x) (j : Int) = inR ins (j : Int) := by
  have hn : notIn (ins.set n x) (j : Int) ↔ notIn ins (j : Int) := by unfold notIn; rw [List.length_set]
  have hg : (ins.set n x).getD (j : Int).toNat default = ins.getD (j : Int).toNat default := by
    rw [Int.toNat_natCast, List.getD_eq_getElem?_getD, List.getElem?_set_ne (fun e => h e.symm), ← List.getD_eq_getElem?_getD]
  unfold inR
  by_cases hc : notIn ins (j : Int)
  · rw [if_pos (hn.2 hc), if_pos hc]
  · rw [if_neg (fun h => hc (hn.1 h)), if_neg hc, hg]
theorem inR_enter {gl : Int} {ins : List Int} {s : Int} {j : Nat} (h : (j : Int) ≠ s) : inR (enterR gl ins s).2.2 (j : Int) = inR ins (j : Int) := by
  unfold enterR
  split
  · rfl
  · rename_i hn
    unfold notIn at hn
    split
    · rfl
    · exact inR_set (by omega)
theorem inR_leave {gl : Int} {ins : List Int} {s : Int} {a : Bool} {j : Nat} (h : (j : Int) ≠ s) : inR (leaveR gl ins s a).2.2 (j : Int) = inR ins (j : Int) := by
  unfold leaveR
  split
  · rfl
  · rename_i hn
    unfold notIn at hn
    split
    · rfl
    · split
      · exact inR_set (by omega)
      · exact inR_set (by omega)
end Go.Proofs.Ytcklafaoijodbaa
