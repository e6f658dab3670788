/- Lists of pairs of ints: what lies behind a slice of them. -/
import Derived.Test.YtcklafaoijodbaaFoot
import Derived.Test.YtcklafaoijodbaaOwn
import Derived.WalkKit
import Derived.WalkSmall
import Derived.LoopTactic
import Derived.Lib.Hide
import Derived.Lib.OthersKept
import Derived.Laws.StructEq
import Derived.Laws.AppendOwnNone
import Derived.Laws.OwnMore
import Derived.Deep.RegionHeld3
import Derived.Deep.QuietTactic
import Derived.BigQuiet
import Derived.Deep.Slices
set_option linter.unusedVariables false
namespace Go.Proofs.Ytcklafaoijodbaa
open Go Go.RowKit

/-- A handle: slot, generation. -/
abbrev H2 : Type := Int × Int
def H2.no : H2 := (0, 0)
def handV (z : H2) : Value := .agg #[.int .i64 z.1, .int .i64 z.2]
def cellsH (z : H2) : List Value := [.int .i64 z.1, .int .i64 z.2]
/-- What lies behind a slice of handles. -/
def RdH (w : World) (A : Option Addr) (zs : List H2) : Prop := ∀ k, k < zs.length → ∃ ad, A = some ad ∧ ad.block < w.heap.size ∧
  w.cell? (ad.add (k * 2)) = some (.int .i64 (zs.getD k H2.no).1) ∧ w.cell? (ad.add (k * 2 + 1)) = some (.int .i64 (zs.getD k H2.no).2)
theorem RdH.only {w w' : World} {S : Nat → Prop} {A : Option Addr} {zs : List H2} (h : RdH w A zs) (ho : Only S w w') (hA : ∀ ad, A = some ad → ¬ S ad.block) : RdH w' A zs := by
  intro k hk
  obtain ⟨ad, e, hlt, h0, h1⟩ := h k hk
  have hbl : ∀ j, (ad.add j).block = ad.block := fun j => add_block ad j
  refine ⟨ad, e, Nat.lt_of_lt_of_le hlt ho.size, ?_, ?_⟩
  · rw [World.cell?_of_block (ho.block _ (by rw [hbl]; exact hlt) (by rw [hbl]; exact hA ad e))]; exact h0
  · rw [World.cell?_of_block (ho.block _ (by rw [hbl]; exact hlt) (by rw [hbl]; exact hA ad e))]; exact h1
theorem RdH.below {w w' : World} {B : Nat} {A : Option Addr} {zs : List H2} (h : RdH w A zs) (hB : w.heap.size ≤ B) (hb : Below B w w') : RdH w' A zs :=
  h.only (S := fun _ => False) (Below.only (hb.mono hB)) (fun _ _ h => h)
theorem dropH (zs : List H2) (k : Nat) (h : k < zs.length) : zs.drop k = zs.getD k H2.no :: zs.drop (k + 1) := by
  rw [List.drop_eq_getElem_cons h]
  simp [List.getD_eq_getElem?_getD, List.getElem?_eq_getElem h]
theorem add_formH (a : Addr) (j : Nat) : a.add (j + 1) = { block := a.block, off := a.off + (j + 1) } := by unfold Addr.add; rw [if_neg (by omega)]
theorem RdH.at2 {w : World} {A : Option Addr} {zs : List H2} (h : RdH w A zs) {k : Nat} (hk : k < zs.length) : ∃ ad, A = some ad ∧ ad.block < w.heap.size ∧
    w.cell? (ad.add (k * 2)) = some (.int .i64 (zs.getD k H2.no).1) ∧ w.cell? { block := (ad.add (k * 2)).block, off := (ad.add (k * 2)).off + 1 } = some (.int .i64 (zs.getD k H2.no).2) := by
  obtain ⟨ad, e, hb, h0, h1⟩ := h k hk
  rw [← Go.Deep.add_add, add_formH] at h1
  exact ⟨ad, e, hb, h0, h1⟩
def sameH (z y : H2) : Bool := z.1 == y.1 && z.2 == y.2
theorem sameH_iff (z y : H2) : sameH z y = decide (z = y) := by
  obtain ⟨a, b⟩ := z
  obtain ⟨c, d⟩ := y
  unfold sameH
  rw [Bool.eq_iff_iff, Bool.and_eq_true, beq_iff_eq, beq_iff_eq, decide_eq_true_iff, Prod.mk.injEq]
theorem ret_boolH {a b : Bool} (h : a = b) : Ending.returned (.bool a) = .returned (.bool b) := by rw [h]
theorem below_drewH {B : Nat} {a w : World} (h : Below B a w) (n : Nat) : Below B a (w.drewN n) := ⟨h.os, h.tape, h.output, h.size, h.block⟩
end Go.Proofs.Ytcklafaoijodbaa
