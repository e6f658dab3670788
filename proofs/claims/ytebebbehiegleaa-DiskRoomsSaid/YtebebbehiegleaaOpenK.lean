/- How the arguments of the laws on disks come in: slices of bytes, slices of these, acts. -/
import Derived.Test.YtebebbehiegleaaOpenG
import Derived.Deep.Slices
import Derived.Deep.Strs
set_option linter.unusedVariables false
namespace Go.Proofs.Ytebebbehiegleaa
open Go Go.RowKit Go.WideShapes Go.ChangeShapes

/-- An act: kind, number, slices of bytes. -/
structure ActK where
  kind : Int
  num : Int
  adr : Option Addr
  cap : Nat
  bss : List BsZ
def ActK.no : ActK := ⟨0, 0, none, 0, []⟩
instance : Inhabited ActK := ⟨ActK.no⟩
def ActK.ok (w : World) (z : ActK) : Prop := I64 z.kind ∧ I64 z.num ∧ SlcS w z.adr z.bss.length z.cap z.bss
theorem ActK.ok.below {w w' : World} {z : ActK} {B : Nat} (h : z.ok w) (hB : w.heap.size ≤ B) (hb : Below B w w') : z.ok w' := ⟨h.1, h.2.1, h.2.2.1, h.2.2.2.1, h.2.2.2.2.below hB hb⟩
def layK : LayG ActK := ⟨fun z => [.int .i64 z.kind, .int .i64 z.num, .slice z.adr z.bss.length z.cap], 3, by decide, fun _ => rfl, fun z u hu => by
  rcases List.mem_cons.1 hu with rfl | hu
  · rfl
  · rcases List.mem_cons.1 hu with rfl | hu
    · rfl
    · rw [List.mem_singleton.1 hu]; rfl⟩
def SlcK (w : World) (a : Option Addr) (l c : Nat) (zs : List ActK) : Prop := zs.length = l ∧ l ≤ c ∧ layK.Rd w a zs ∧ ∀ z ∈ zs, z.ok w
theorem mem_getDK {zs : List ActK} {k : Nat} (h : k < zs.length) : zs.getD k default ∈ zs := by rw [List.getD_eq_getElem?_getD, List.getElem?_eq_getElem h]; exact List.getElem_mem h
theorem add_formG (a : Addr) (j : Nat) : a.add (j + 1) = { block := a.block, off := a.off + (j + 1) } := by unfold Addr.add; rw [if_neg (by omega)]
/-- As a load of the whole act asks it. -/
theorem layK_at {w : World} {A : Option Addr} {zs : List ActK} (h : layK.Rd w A zs) {k : Nat} (hk : k < zs.length) : ∃ ad, A = some ad ∧ ad.block < w.heap.size ∧ w.cell? (ad.add (k * 3)) = some (.int .i64 (zs.getD k default).kind) ∧
    w.cell? { block := (ad.add (k * 3)).block, off := (ad.add (k * 3)).off + 1 } = some (.int .i64 (zs.getD k default).num) ∧
    w.cell? { block := (ad.add (k * 3)).block, off := (ad.add (k * 3)).off + 2 } = some (.slice (zs.getD k default).adr (zs.getD k default).bss.length (zs.getD k default).cap) := by
  obtain ⟨ad, e, hb, h0⟩ := h k hk
  have c0 := h0 0 _ rfl
  have c1 := h0 1 _ rfl
  have c2 := h0 2 _ rfl
  refine ⟨ad, e, hb, c0, ?_, ?_⟩
  · rw [← Go.Deep.add_add, add_formG] at c1; exact c1
  · rw [← Go.Deep.add_add, add_formG] at c2; exact c2
set_option maxRecDepth 100000 in
theorem open_acts7 {H : Type} {enc : TypeId × Value → H} {w : World} {base : Nat} {spare : Nat → Bool} {held : Bool} {fuel : Nat} {a : Option Addr} {l c : Nat} {x : DataW H × List MemPlace}
    (h : DataW.trod enc Try.prog w base spare held fuel 22 [.slice a l c] = some x) : ∃ zs, SlcK w a l c zs := by
  rcases Go.Deep.open_slice Try.underlying22 h with ⟨hcs, _⟩ | ⟨ad, len, cap, m, n, D, Pl, hcs, _, hl, hm, hmm, _, hx⟩
  · simp at hcs
    obtain ⟨rfl, rfl, rfl⟩ := hcs
    exact ⟨[], rfl, Nat.le_refl _, LayG.Rd.nothing _, fun z hz => by cases hz⟩
  · simp at hcs
    obtain ⟨rfl, rfl, rfl⟩ := hcs
    have hlm : l ≤ m := by rw [hmm]; split <;> omega
    have ce : Try.prog.cellsOf 34 = 3 := by kernel_rfl
    have each : ∀ i, i < l → ∃ z : ActK, z.ok w ∧ w.cell? (ad.add (i * 3)) = some (.int .i64 z.kind) ∧ w.cell? (ad.add (i * 3 + 1)) = some (.int .i64 z.num) ∧ w.cell? (ad.add (i * 3 + 2)) = some (.slice z.adr z.bss.length z.cap) := by
      intro i hi
      obtain ⟨cs', h1, h2⟩ := hx i (by omega)
      rw [ce] at h1
      obtain ⟨_, hlen, hcell⟩ := World.cells?_some h1
      obtain ⟨y2, y3, y4, n2, _, _, g2, g3, g4⟩ := Go.Deep.trod_struct3 Try.underlying34 h2
      match cs', hlen with
      | [v0, v1, v2], _ =>
        have ci : Try.prog.cellsOf 3 = 1 := by kernel_rfl
        have ch : Try.prog.cellsOf 32 = 1 := by kernel_rfl
        simp [ci, ch] at g2 g3 g4
        obtain ⟨kd, e1, _, w1⟩ := DataW.trod_int Try.underlying3 g2
        obtain ⟨nn, e2, _, w2⟩ := DataW.trod_int Try.underlying3 g3
        obtain ⟨ha, hl, hc, zs, e3, hz⟩ := open_bss g4
        simp at e1 e2 e3
        subst e1 e2 e3
        have c0 := hcell 0 (by omega)
        have c1 := hcell 1 (by omega)
        have c2 := hcell 2 (by omega)
        rw [Go.Deep.add_add] at c0 c1 c2
        obtain ⟨rfl, hz2, hz3⟩ := hz
        exact ⟨⟨kd, nn, ha, hc, zs⟩, ⟨wf_i64 w1, wf_i64 w2, rfl, hz2, hz3⟩, by simpa using c0, by simpa using c1, by simpa using c2⟩
    obtain ⟨q, hq⟩ := Go.Deep.choose_lt each
    refine ⟨(List.range l).map q, by simp, hl, (fun k hk => ?_), fun z hz => ?_⟩
    · rw [List.length_map, List.length_range] at hk
      obtain ⟨h3, h0, h1, h2⟩ := hq k hk
      have e : ((List.range l).map q).getD k default = q k := by
        rw [List.getD_eq_getElem?_getD, List.getElem?_map, List.getElem?_range hk]
        rfl
      refine ⟨ad, rfl, by have := block_lt h0; rw [add_block] at this; exact this, fun j u hu => ?_⟩
      rw [e] at hu
      rw [show k * layK.size + j = k * 3 + j from rfl]
      match j, hu with
      | 0, hu => rw [← (Option.some.inj hu : _ = u)]; exact h0
      | 1, hu => rw [← (Option.some.inj hu : _ = u)]; exact h1
      | 2, hu => rw [← (Option.some.inj hu : _ = u)]; exact h2
      | j + 3, hu => cases hu
    · obtain ⟨i, hi, rfl⟩ := List.mem_map.1 hz
      exact (hq i (List.mem_range.1 hi)).1
end Go.Proofs.Ytebebbehiegleaa
