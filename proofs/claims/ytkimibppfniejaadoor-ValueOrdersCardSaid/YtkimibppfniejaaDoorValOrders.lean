/- What ValueOrders asks besides: the beginnings of rows, as texts; runes, as a text. -/
import Derived.Test.YtkimibppfniejaaDoorValBack
set_option linter.unusedVariables false
namespace Go.Proofs.YtkimibppfniejaaDoor
open Go Go.RowKit

theorem conv_take {w : World} {B g n cap : Nat} {bs : List UInt8} (h : URow w B (.slice (some ⟨g, 0, none⟩) n cap) n bs) (m : Nat) (hm : m ≤ n) :
    (convert 36 9 (.slice (some ⟨g, 0, none⟩) m cap)).run Tryd.prog w = .ok (.string ⟨(bs.take m).toArray⟩) w := by
  have hl := h.len
  have e : (bs.take m).length = m := by rw [List.length_take]; omega
  have hh := run_convert_bytes_back (P := Tryd.prog) w 36 9 5 ⟨g, 0, none⟩ cap (bs.take m) Tryd.underlying36 Tryd.underlying5 Tryd.underlying9 (fun j hj => by
    have hj2 : j < bs.length := by rw [e] at hj; omega
    exact World.ownsRow.cells h rfl j (u8v (bs.take m)[j]) (by rw [List.getElem?_map, List.getElem?_eq_getElem hj2, List.getElem_take]; rfl))
  rw [e] at hh
  exact hh
theorem conv_z {w : World} {A : Option Addr} {z : List Int} (h : Rd w A z) (c : Nat) :
    (convert 45 9 (.slice A z.length c)).run Tryd.prog w = .ok (.string ⟨(text z).toArray⟩) w := by
  cases A with
  | none =>
    have hz : z = [] := by
      cases z with
      | nil => rfl
      | cons r z =>
        obtain ⟨ad, e, _⟩ := h 0 (by simp)
        cases e
    subst hz
    rw [run_convert_runes_nil (P := Tryd.prog) w 45 9 21 _ c Tryd.underlying45 Tryd.underlying21 Tryd.underlying9]
    rfl
  | some a =>
    have hh := run_convert_runes (P := Tryd.prog) w 45 9 21 a z.length c z (Nat.le_refl _) Tryd.underlying45 Tryd.underlying21 Tryd.underlying9 (fun j hj => by
      obtain ⟨ad, e, _, hc⟩ := h j hj
      obtain rfl : a = ad := by injection e
      exact hc)
    rw [List.take_of_length_le (Nat.le_refl _), runesBytes_text] at hh
    exact hh
theorem print_any_size (k n : Int) (s : ByteArray) (h0 : -9223372036854775808 ≤ n) (h1 : n ≤ 9223372036854775807) : (printR k n s).size ≤ 5000 := by
  cases h : rightV k n s with
  | true => exact print_size k n s h h0 h1
  | false =>
    unfold printR
    rw [h]
    show (⟨#[63]⟩ : ByteArray).size ≤ 5000
    decide
end Go.Proofs.YtkimibppfniejaaDoor
