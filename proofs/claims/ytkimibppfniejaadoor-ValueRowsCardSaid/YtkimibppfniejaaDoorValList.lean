/- Plain Lean: values' bytes, one behind the other. -/
import Derived.Test.YtkimibppfniejaaDoorValBack
import Derived.Test.YtkimibppfniejaaDoorValRight
set_option linter.unusedVariables false
namespace Go.Proofs.YtkimibppfniejaaDoor
open Go Go.RowKit

/-! ### values' bytes, one behind the other -/
def bsL (z : List Val3) : List UInt8 := z.flatMap fun q => bytesR q.1 q.2.1 q.2.2
theorem bsL_append (a b : List Val3) : bsL (a ++ b) = bsL a ++ bsL b := by simp [bsL]
theorem bsL_len : ∀ z : List Val3, (∀ q ∈ z, rightV q.1 q.2.1 q.2.2 = true) → (bsL z).length ≤ 3000 * z.length
  | [], _ => by simp [bsL]
  | q :: z, h => by
    have ih := bsL_len z (fun x hx => h x (List.mem_cons_of_mem _ hx))
    have h1 := h q (List.mem_cons_self ..)
    have h2 : q.2.2.size ≤ 1000 := by
      rcases right_kinds h1 with ⟨_, e⟩ | ⟨_, _, e⟩
      · rw [e]; decide
      · omega
    have h3 := bytesR_len q.1 q.2.1 q.2.2 h2
    have e : bsL (q :: z) = bytesR q.1 q.2.1 q.2.2 ++ bsL z := rfl
    rw [e, List.length_append, List.length_cons]
    omega
/-- A value that lies flat, three cells, in a list of values. -/
structure Flat (W : World) (ad : Addr) (j : Nat) (k n : Int) (s : ByteArray) : Prop where
  c0 : W.cell? (ad.add (j * 3)) = some (.int .i64 k)
  c1 : W.cell? { block := (ad.add (j * 3)).block, off := (ad.add (j * 3)).off + 1 } = some (.int .i64 n)
  c2 : W.cell? { block := (ad.add (j * 3)).block, off := (ad.add (j * 3)).off + 2 } = some (.string s)
theorem RdV.flat {w : World} {A : Option Addr} {zs : List Val3} (h : RdV w A zs) {j : Nat} (hj : j < zs.length) :
    ∃ ad, A = some ad ∧ ad.block < w.heap.size ∧ Flat w ad j (zs.getD j Val3.no).1 (zs.getD j Val3.no).2.1 (zs.getD j Val3.no).2.2 := by
  obtain ⟨ad, e, hb, h0, h1, h2⟩ := h j hj
  rw [← Go.Deep.add_add, add_formV] at h1 h2
  exact ⟨ad, e, hb, h0, h1, h2⟩
theorem Flat.below {w w' : World} {B : Nat} {ad : Addr} {j : Nat} {k n : Int} {s : ByteArray} (h : Flat w ad j k n s) (hlt : ad.block < B) (hb : Below B w w') : Flat w' ad j k n s := by
  have e : w'.heap[(ad.add (j * 3)).block]? = w.heap[(ad.add (j * 3)).block]? := by rw [add_block]; exact hb.block ad.block hlt
  have e1 : w'.heap[({ block := (ad.add (j * 3)).block, off := (ad.add (j * 3)).off + 1 } : Addr).block]? = w.heap[({ block := (ad.add (j * 3)).block, off := (ad.add (j * 3)).off + 1 } : Addr).block]? := e
  have e2 : w'.heap[({ block := (ad.add (j * 3)).block, off := (ad.add (j * 3)).off + 2 } : Addr).block]? = w.heap[({ block := (ad.add (j * 3)).block, off := (ad.add (j * 3)).off + 2 } : Addr).block]? := e
  exact ⟨(World.cell?_of_block e).trans h.c0, (World.cell?_of_block e1).trans h.c1, (World.cell?_of_block e2).trans h.c2⟩
theorem RdB.tail {w : World} {ab : Addr} {bs pre rest : List UInt8} {m : Nat} (h : RdB w (some ab) bs) (hb : bs = pre ++ rest) (hm : pre.length = m) : RdB w (some (ab.add m)) rest := by
  intro k hk
  obtain ⟨ad, e, h1, h2⟩ := h (m + k) (by rw [hb, List.length_append]; omega)
  obtain rfl : ab = ad := by injection e
  refine ⟨_, rfl, by rw [add_block]; exact h1, ?_⟩
  have eg : bs.getD (m + k) 0 = rest.getD k 0 := by
    rw [hb, List.getD_eq_getElem?_getD, List.getD_eq_getElem?_getD, List.getElem?_append_right (by omega), hm]
    congr 2
    omega
  rw [Go.Deep.add_add, h2, eg]
end Go.Proofs.YtkimibppfniejaaDoor
