/- How a law's lists of acts of two ints come in. -/
import Derived.Test.YtcklafaoijodbaaNum
import Derived.Test.YtcklafaoijodbaaPair
import Derived.Deep.Slices
set_option linter.unusedVariables false
namespace Go.Proofs.Ytcklafaoijodbaa
open Go Go.RowKit Go.WideShapes Go.ChangeShapes

/-- A slice of pairs of ints that came in. -/
def SlcQ (w : World) (a : Option Addr) (l c : Nat) (zs : List H2) : Prop := zs.length = l ∧ l ≤ c ∧ RdH w a zs ∧ ∀ z ∈ zs, I64 z.1 ∧ I64 z.2
theorem SlcQ.none_ (w : World) : SlcQ w none 0 0 [] := ⟨rfl, Nat.le_refl _, fun k hk => by simp at hk, fun z hz => by cases hz⟩
set_option maxRecDepth 100000 in
theorem open_acts6 {H : Type} {enc : TypeId × Value → H} {w : World} {base : Nat} {spare : Nat → Bool} {held : Bool} {fuel : Nat} {a : Option Addr} {l c : Nat} {x : DataW H × List MemPlace}
    (h : DataW.trod enc Try.prog w base spare held fuel 22 [.slice a l c] = some x) : ∃ zs, SlcQ w a l c zs := by
  rcases Go.Deep.open_slice Try.underlying22 h with ⟨hcs, _⟩ | ⟨ad, len, cap, m, n, D, Pl, hcs, _, hl, hm, hmm, _, hx⟩
  · simp at hcs
    obtain ⟨rfl, rfl, rfl⟩ := hcs
    exact ⟨[], SlcQ.none_ w⟩
  · simp at hcs
    obtain ⟨rfl, rfl, rfl⟩ := hcs
    have hlm : l ≤ m := by rw [hmm]; split <;> omega
    have ce : Try.prog.cellsOf 31 = 2 := by kernel_rfl
    have each : ∀ i, i < l → ∃ z : H2, (I64 z.1 ∧ I64 z.2) ∧ w.cell? (ad.add (i * 2)) = some (.int .i64 z.1) ∧ w.cell? (ad.add (i * 2 + 1)) = some (.int .i64 z.2) := by
      intro i hi
      obtain ⟨cs', h1, h2⟩ := hx i (by omega)
      rw [ce] at h1
      obtain ⟨_, hlen, hcell⟩ := World.cells?_some h1
      obtain ⟨y0, y1, n', _, _, g0, g1⟩ := trod_struct2 Try.underlying31 h2
      match cs', hlen with
      | [v0, v1], _ =>
        have ci : Try.prog.cellsOf 3 = 1 := by kernel_rfl
        simp [ci] at g0 g1
        obtain ⟨a, e0, _, w0⟩ := DataW.trod_int Try.underlying3 g0
        obtain ⟨b, e1, _, w1⟩ := DataW.trod_int Try.underlying3 g1
        simp at e0 e1
        subst e0 e1
        have c0 := hcell 0 (by omega)
        have c1 := hcell 1 (by omega)
        rw [Go.Deep.add_add] at c0 c1
        exact ⟨(a, b), ⟨wf_i64 w0, wf_i64 w1⟩, by simpa using c0, by simpa using c1⟩
    obtain ⟨q, hq⟩ := Go.Deep.choose_lt each
    refine ⟨(List.range l).map q, by simp, hl, (fun k hk => ?_), (fun z hz => ?_)⟩
    · rw [List.length_map, List.length_range] at hk
      obtain ⟨_, h0, h1⟩ := hq k hk
      have e : ((List.range l).map q).getD k H2.no = q k := by
        rw [List.getD_eq_getElem?_getD, List.getElem?_map, List.getElem?_range hk]
        rfl
      rw [e]
      exact ⟨ad, rfl, by have := block_lt h0; rw [add_block] at this; exact this, h0, h1⟩
    · obtain ⟨i, hi, rfl⟩ := List.mem_map.1 hz
      exact (hq i (List.mem_range.1 hi)).1
theorem mem_getDH {hs : List H2} {k : Nat} (h : k < hs.length) : hs.getD k H2.no ∈ hs := by rw [List.getD_eq_getElem?_getD, List.getElem?_eq_getElem h]; exact List.getElem_mem h
end Go.Proofs.Ytcklafaoijodbaa
