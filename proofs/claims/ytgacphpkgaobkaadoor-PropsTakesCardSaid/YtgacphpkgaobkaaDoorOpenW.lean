/- How a law's list of values comes in; texts of runes, as a conversion makes them. -/
import Derived.Test.YtgacphpkgaobkaaDoorOpenV
import Derived.Deep.Slices
import Derived.Deep.Strs
set_option linter.unusedVariables false
namespace Go.Proofs.YtgacphpkgaobkaaDoor
open Go Go.RowKit Go.WideShapes Go.ChangeShapes

abbrev Val3 : Type := Int × Int × ByteArray
def Val3.no : Val3 := (0, 0, ByteArray.empty)
/-- What lies behind a slice of values. -/
def RdV (w : World) (A : Option Addr) (zs : List Val3) : Prop := ∀ k, k < zs.length → ∃ ad, A = some ad ∧ ad.block < w.heap.size ∧
  w.cell? (ad.add (k * 3)) = some (.int .i64 (zs.getD k Val3.no).1) ∧ w.cell? (ad.add (k * 3 + 1)) = some (.int .i64 (zs.getD k Val3.no).2.1) ∧ w.cell? (ad.add (k * 3 + 2)) = some (.string (zs.getD k Val3.no).2.2)
theorem RdV.below {w w' : World} {B : Nat} {A : Option Addr} {zs : List Val3} (h : RdV w A zs) (hB : w.heap.size ≤ B) (hb : Below B w w') : RdV w' A zs := by
  intro k hk
  obtain ⟨ad, e, hlt, h0, h1, h2⟩ := h k hk
  have hbl : ∀ j, (ad.add j).block = ad.block := fun j => add_block ad j
  refine ⟨ad, e, Nat.lt_of_lt_of_le hlt hb.size, ?_, ?_, ?_⟩
  · rw [World.cell?_of_block (hb.block _ (by rw [hbl]; omega))]; exact h0
  · rw [World.cell?_of_block (hb.block _ (by rw [hbl]; omega))]; exact h1
  · rw [World.cell?_of_block (hb.block _ (by rw [hbl]; omega))]; exact h2
/-- A slice of values that came in. -/
def SlcV (w : World) (a : Option Addr) (l c : Nat) (zs : List Val3) : Prop := zs.length = l ∧ l ≤ c ∧ RdV w a zs ∧ ∀ z ∈ zs, ValIn z.1 z.2.1 z.2.2
theorem SlcV.none_ (w : World) : SlcV w none 0 0 [] := ⟨rfl, Nat.le_refl _, fun k hk => by simp at hk, fun z hz => by cases hz⟩
set_option maxRecDepth 100000 in
theorem open_vals {H : Type} {enc : TypeId × Value → H} {w : World} {base : Nat} {spare : Nat → Bool} {held : Bool} {fuel : Nat} {a : Option Addr} {l c : Nat} {x : DataW H × List MemPlace}
    (h : DataW.trod enc Tryd.prog w base spare held fuel 84 [.slice a l c] = some x) : ∃ zs, SlcV w a l c zs := by
  rcases Go.Deep.open_slice Tryd.underlying84 h with ⟨hcs, _⟩ | ⟨ad, len, cap, m, n, D, Pl, hcs, _, hl, hm, hmm, _, hx⟩
  · simp at hcs
    obtain ⟨rfl, rfl, rfl⟩ := hcs
    exact ⟨[], SlcV.none_ w⟩
  · simp at hcs
    obtain ⟨rfl, rfl, rfl⟩ := hcs
    have hlm : l ≤ m := by rw [hmm]; split <;> omega
    have ce : Tryd.prog.cellsOf 36 = 3 := by kernel_rfl
    have each : ∀ i, i < l → ∃ z : Val3, ValIn z.1 z.2.1 z.2.2 ∧ w.cell? (ad.add (i * 3)) = some (.int .i64 z.1) ∧ w.cell? (ad.add (i * 3 + 1)) = some (.int .i64 z.2.1) ∧ w.cell? (ad.add (i * 3 + 2)) = some (.string z.2.2) := by
      intro i hi
      obtain ⟨cs', h1, h2⟩ := hx i (by omega)
      rw [ce] at h1
      obtain ⟨_, hlen, hcell⟩ := World.cells?_some h1
      obtain ⟨y0, y1, y2, n', _, _, g0, g1, g2⟩ := Go.Deep.trod_struct3 Tryd.underlying36 h2
      match cs', hlen with
      | [v0, v1, v2], _ =>
        have ci : Tryd.prog.cellsOf 3 = 1 := by kernel_rfl
        have cst : Tryd.prog.cellsOf 9 = 1 := by kernel_rfl
        simp [ci, cst] at g0 g1 g2
        obtain ⟨k, e0, _, w0⟩ := DataW.trod_int Tryd.underlying3 g0
        obtain ⟨nn, e1, _, w1⟩ := DataW.trod_int Tryd.underlying3 g1
        obtain ⟨s, e2, _, w2⟩ := DataW.trod_string Tryd.underlying9 g2
        simp at e0 e1 e2
        subst e0 e1 e2
        have c0 := hcell 0 (by omega)
        have c1 := hcell 1 (by omega)
        have c2 := hcell 2 (by omega)
        rw [Go.Deep.add_add] at c0 c1 c2
        exact ⟨(k, nn, s), ⟨i64_wf w0, i64_wf w1, w2⟩, by simpa using c0, by simpa using c1, by simpa using c2⟩
    obtain ⟨q, hq⟩ := Go.Deep.choose_lt each
    refine ⟨(List.range l).map q, by simp, hl, fun k hk => ?_, fun z hz => ?_⟩
    · rw [List.length_map, List.length_range] at hk
      obtain ⟨_, h0, h1, h2⟩ := hq k hk
      have e : ((List.range l).map q).getD k Val3.no = q k := by
        rw [List.getD_eq_getElem?_getD, List.getElem?_map, List.getElem?_range hk]
        rfl
      rw [e]
      exact ⟨ad, rfl, by have := block_lt h0; rw [add_block] at this; exact this, h0, h1, h2⟩
    · obtain ⟨i, hi, rfl⟩ := List.mem_map.1 hz
      exact (hq i (List.mem_range.1 hi)).1
end Go.Proofs.YtgacphpkgaobkaaDoor
