/- Several names in a call; the document's examples. -/
import Derived.Test.YtkimibppfniejaaDoorQuote
set_option linter.unusedVariables false
namespace Go.Proofs.YtkimibppfniejaaDoor
open Go Go.RowKit

def RdS (w : World) (A : Option Addr) (ss : List ByteArray) : Prop := ∀ k, k < ss.length → ∃ ad, A = some ad ∧ ad.block < w.heap.size ∧ w.cell? (ad.add k) = some (.string (ss.getD k ByteArray.empty))
theorem RdS.below {w w' : World} {B : Nat} {A : Option Addr} {rs : List ByteArray} (h : RdS w A rs) (hB : w.heap.size ≤ B) (hb : Below B w w') : RdS w' A rs := by
  intro k hk
  obtain ⟨ad, e, hlt, hc⟩ := h k hk
  refine ⟨ad, e, Nat.lt_of_lt_of_le hlt hb.size, ?_⟩
  have hbl : (ad.add k).block = ad.block := by unfold Addr.add; split <;> rfl
  rw [World.cell?_of_block (hb.block _ (by omega))]
  exact hc
theorem RdS.at1 {w : World} {A : Option Addr} {rs : List ByteArray} (h : RdS w A rs) {k : Nat} (hk : k < rs.length) : ∃ ad, A = some ad ∧ w.cell? (ad.add k) = some (.string (rs.getD k ByteArray.empty)) := by
  obtain ⟨ad, e, _, hc⟩ := h k hk
  exact ⟨ad, e, hc⟩
def nameB (s : ByteArray) : Bool := nameL (runes s.data.toList)
theorem allS_at (p : ByteArray → Bool) (rs : List ByteArray) (k : Nat) (h : k < rs.length) : (rs.drop k).all p = (p (rs.getD k ByteArray.empty) && (rs.drop (k + 1)).all p) := by
  rw [List.drop_eq_getElem_cons h, List.all_cons]
  simp [List.getD_eq_getElem?_getD, List.getElem?_eq_getElem h]

theorem aw_r1 : runes [103, 114, 97, 112, 104] = [103, 114, 97, 112, 104] := by decide +kernel
theorem aw_r2 : runes [103, 42, 112, 63] = [103, 42, 112, 63] := by decide +kernel
theorem aw_r3 : runes [] = [] := rfl
theorem aw_r4 : runes [42] = [42] := by decide +kernel
theorem aw_l1 : likeR (runes [103, 114, 97, 112, 104]) (runes [103, 42, 112, 63]) = .tuple #[.bool true, .int .i64 0] := by
  rw [aw_r1, aw_r2]
  simp [likeR, fitsL]
theorem aw_l2 : likeR (runes []) (runes [42]) = .tuple #[.bool true, .int .i64 0] := by
  rw [aw_r3, aw_r4]
  simp [likeR, fitsL]
theorem aw_n1 : nameB ⟨#[195, 132, 114, 103, 101, 114, 95, 55]⟩ = true := by decide +kernel
theorem aw_n2 : nameB ⟨#[55, 97]⟩ = false := by decide +kernel
theorem aw_n3 : nameB ⟨#[97, 45, 98]⟩ = false := by decide +kernel
theorem aw_n4 : nameB ⟨#[]⟩ = false := by decide +kernel
theorem aw_f : foldL [195, 132, 66, 67, 195, 151] = [195, 164, 98, 99, 195, 151] := by decide +kernel
theorem aw_q : quoteL [115, 97, 121, 32, 34, 104, 105, 34] = [34, 115, 97, 121, 32, 92, 34, 104, 105, 92, 34, 34] := by decide +kernel

end Go.Proofs.YtkimibppfniejaaDoor
