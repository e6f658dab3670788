/- How a law's lists of properties come in. -/
import Derived.Test.YtgacphpkgaobkaaDoorOpenW
import Derived.Test.YtgacphpkgaobkaaDoorPropRef
set_option linter.unusedVariables false
namespace Go.Proofs.YtgacphpkgaobkaaDoor
open Go Go.RowKit Go.WideShapes Go.ChangeShapes

/-- A slice of properties that came in. -/
def SlcP (w : World) (a : Option Addr) (l c : Nat) (zs : List Prop4) : Prop := zs.length = l ∧ l ≤ c ∧ (a = none → c = 0) ∧ RdP w a zs ∧ ∀ z ∈ zs, z.1.size ≤ maxLen ∧ ValIn z.2.1 z.2.2.1 z.2.2.2
theorem SlcP.none_ (w : World) : SlcP w none 0 0 [] := ⟨rfl, Nat.le_refl _, fun _ => rfl, fun k hk => by simp at hk, fun z hz => by cases hz⟩
set_option maxRecDepth 100000 in
theorem open_props {H : Type} {enc : TypeId × Value → H} {w : World} {base : Nat} {spare : Nat → Bool} {held : Bool} {fuel : Nat} {a : Option Addr} {l c : Nat} {x : DataW H × List MemPlace}
    (h : DataW.trod enc Tryd.prog w base spare held fuel 22 [.slice a l c] = some x) : ∃ zs, SlcP w a l c zs := by
  rcases Go.Deep.open_slice Tryd.underlying22 h with ⟨hcs, _⟩ | ⟨ad, len, cap, m, n, D, Pl, hcs, _, hl, hm, hmm, _, hx⟩
  · simp at hcs
    obtain ⟨rfl, rfl, rfl⟩ := hcs
    exact ⟨[], SlcP.none_ w⟩
  · simp at hcs
    obtain ⟨rfl, rfl, rfl⟩ := hcs
    have hlm : l ≤ m := by rw [hmm]; split <;> omega
    have ce : Tryd.prog.cellsOf 41 = 4 := by kernel_rfl
    have each : ∀ i, i < l → ∃ z : Prop4, (z.1.size ≤ maxLen ∧ ValIn z.2.1 z.2.2.1 z.2.2.2) ∧ w.cell? (ad.add (i * 4)) = some (.string z.1) ∧ w.cell? (ad.add (i * 4 + 1)) = some (.int .i64 z.2.1) ∧ w.cell? (ad.add (i * 4 + 2)) = some (.int .i64 z.2.2.1) ∧ w.cell? (ad.add (i * 4 + 3)) = some (.string z.2.2.2) := by
      intro i hi
      obtain ⟨cs', h1, h2⟩ := hx i (by omega)
      rw [ce] at h1
      obtain ⟨_, hlen, hcell⟩ := World.cells?_some h1
      obtain ⟨y0, y1, n', _, _, g0, g1⟩ := trod_struct2 Tryd.underlying41 h2
      match cs', hlen with
      | [v0, v1, v2, v3], _ =>
        have ci : Tryd.prog.cellsOf 3 = 1 := by kernel_rfl
        have cst : Tryd.prog.cellsOf 9 = 1 := by kernel_rfl
        have cv : Tryd.prog.cellsOf 36 = 3 := by kernel_rfl
        simp [cst, cv] at g0 g1
        obtain ⟨a, e0, _, w0⟩ := DataW.trod_string Tryd.underlying9 g0
        obtain ⟨y2, y3, y4, n2, _, _, g2, g3, g4⟩ := Go.Deep.trod_struct3 Tryd.underlying36 g1
        simp [ci, cst] at g2 g3 g4
        obtain ⟨k, e1, _, w1⟩ := DataW.trod_int Tryd.underlying3 g2
        obtain ⟨nn, e2, _, w2⟩ := DataW.trod_int Tryd.underlying3 g3
        obtain ⟨s, e3, _, w3⟩ := DataW.trod_string Tryd.underlying9 g4
        simp at e0 e1 e2 e3
        subst e0 e1 e2 e3
        have c0 := hcell 0 (by omega)
        have c1 := hcell 1 (by omega)
        have c2 := hcell 2 (by omega)
        have c3 := hcell 3 (by omega)
        rw [Go.Deep.add_add] at c0 c1 c2 c3
        exact ⟨(a, k, nn, s), ⟨w0, i64_wf w1, i64_wf w2, w3⟩, by simpa using c0, by simpa using c1, by simpa using c2, by simpa using c3⟩
    obtain ⟨q, hq⟩ := Go.Deep.choose_lt each
    refine ⟨(List.range l).map q, by simp, hl, (fun e => by cases e), (fun k hk => ?_), (fun z hz => ?_)⟩
    · rw [List.length_map, List.length_range] at hk
      obtain ⟨_, h0, h1, h2, h3⟩ := hq k hk
      have e : ((List.range l).map q).getD k Prop4.no = q k := by
        rw [List.getD_eq_getElem?_getD, List.getElem?_map, List.getElem?_range hk]
        rfl
      rw [e]
      exact ⟨ad, rfl, by have := block_lt h0; rw [add_block] at this; exact this, h0, h1, h2, h3⟩
    · obtain ⟨i, hi, rfl⟩ := List.mem_map.1 hz
      exact (hq i (List.mem_range.1 hi)).1
end Go.Proofs.YtgacphpkgaobkaaDoor
