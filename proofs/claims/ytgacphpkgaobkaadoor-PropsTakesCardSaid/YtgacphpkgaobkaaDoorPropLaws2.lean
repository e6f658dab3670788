/- What the walks of the statements of layer 3 lean on, more. -/
import Derived.Test.YtgacphpkgaobkaaDoorPropBack
set_option linter.unusedVariables false
namespace Go.Proofs.YtgacphpkgaobkaaDoor
open Go Go.RowKit

theorem conv_takeP {w : World} {B g n cap : Nat} {bs : List UInt8} (h : URow w B (.slice (some ⟨g, 0, none⟩) n cap) n bs) (m : Nat) (hm : m ≤ n) :
    (convert 43 9 (.slice (some ⟨g, 0, none⟩) m cap)).run Tryd.prog w = .ok (.string ⟨(bs.take m).toArray⟩) w := by
  have hl := h.lenT
  have e : (bs.take m).length = m := by rw [List.length_take]; omega
  have hh := run_convert_bytes_back (P := Tryd.prog) w 43 9 5 ⟨g, 0, none⟩ cap (bs.take m) Tryd.underlying43 Tryd.underlying5 Tryd.underlying9 (fun j hj => by
    have hj2 : j < bs.length := by rw [e] at hj; omega
    exact World.ownsRow.cells h rfl j (u8v (bs.take m)[j]) (by rw [List.getElem?_map, List.getElem?_eq_getElem hj2, List.getElem_take]; rfl))
  rw [e] at hh
  exact hh
theorem fair_of {zs : List Prop4} (h : ∀ z ∈ zs, z.1.size ≤ maxLen ∧ ValIn z.2.1 z.2.2.1 z.2.2.2) : Fair zs := fun z hz => (h z hz).2.2.1
theorem smallP_of {zs : List Prop4} (hf : Fair zs) (hs : smallP zs = true) : ∀ z ∈ zs, SmallP z := fun z hz => by
  have h1 := (small_mem hs).2 z hz
  exact ⟨by omega, hf z hz, by omega⟩
theorem names_of {zs : List Prop4} (h : rightP zs = true) : Names zs := fun z hz => (((rightP_iff zs).1 h).2.1 z hz).1
theorem text_eq_of (a b : List UInt8) : ((⟨a.toArray⟩ : ByteArray).toList == (⟨b.toArray⟩ : ByteArray).toList) = decide (a = b) := by
  by_cases h : a = b
  · rw [decide_eq_true h, h]; exact beq_self_eq_true _
  · rw [decide_eq_false h]
    refine str_diff (fun e => h ?_)
    have := congrArg (fun s : ByteArray => s.data.toList) e
    simpa using this
end Go.Proofs.YtgacphpkgaobkaaDoor
