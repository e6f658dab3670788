/- How a law's lists of acts on an arena come in: structs of two ints and a slice of handles. -/
import Derived.Test.YtomcpjgklecopaaNum
import Derived.Test.YtomcpjgklecopaaHandRow
import Derived.Deep.Slices
import Derived.Deep.Strs
set_option linter.unusedVariables false
namespace Go.Proofs.Ytomcpjgklecopaa
open Go Go.RowKit Go.WideShapes Go.ChangeShapes

/-- A slice of handles that came in. -/
def SlcH (w : World) (a : Option Addr) (l c : Nat) (zs : List H2) : Prop := zs.length = l ∧ l ≤ c ∧ RdH w a zs ∧ ∀ z ∈ zs, I64 z.1 ∧ I64 z.2
theorem SlcH.none_ (w : World) : SlcH w none 0 0 [] := ⟨rfl, Nat.le_refl _, fun k hk => by simp at hk, fun z hz => by cases hz⟩
theorem i64_of {n : Int} (h : (Lit.int .i64 n).wf = true) : I64 n := wf_i64 h
set_option maxRecDepth 100000 in
theorem open_hands {H : Type} {enc : TypeId × Value → H} {w : World} {base : Nat} {spare : Nat → Bool} {held : Bool} {fuel : Nat} {cs : List Value} {x : DataW H × List MemPlace}
    (h : DataW.trod enc Try.prog w base spare held fuel 30 cs = some x) : ∃ a l c zs, cs = [.slice a l c] ∧ SlcH w a l c zs := by
  rcases Go.Deep.open_slice Try.underlying30 h with ⟨hcs, _⟩ | ⟨ad, len, cap, m, n, D, Pl, hcs, _, hl, hm, hmm, _, hx⟩
  · exact ⟨none, 0, 0, [], hcs, SlcH.none_ w⟩
  · have hlm : len ≤ m := by rw [hmm]; split <;> omega
    have ce : Try.prog.cellsOf 34 = 2 := by kernel_rfl
    have each : ∀ i, i < len → ∃ z : H2, (I64 z.1 ∧ I64 z.2) ∧ w.cell? (ad.add (i * 2)) = some (.int .i64 z.1) ∧ w.cell? (ad.add (i * 2 + 1)) = some (.int .i64 z.2) := by
      intro i hi
      obtain ⟨cs', h1, h2⟩ := hx i (by omega)
      rw [ce] at h1
      obtain ⟨_, hlen, hcell⟩ := World.cells?_some h1
      obtain ⟨y0, y1, n', _, _, g0, g1⟩ := trod_struct2 Try.underlying34 h2
      match cs', hlen with
      | [v0, v1], _ =>
        have ci : Try.prog.cellsOf 3 = 1 := by kernel_rfl
        simp [ci] at g0 g1
        obtain ⟨a, e0, _, w0⟩ := DataW.trod_int Try.underlying3 g0
        obtain ⟨b, e1, _, w1⟩ := DataW.trod_int Try.underlying3 g1
        simp at e0 e1
        subst e0 e1
        have c0 := hcell 0 (by omega)
        have c1 := hcell 1 (by omega)
        rw [Go.Deep.add_add] at c0 c1
        exact ⟨(a, b), ⟨i64_of w0, i64_of w1⟩, by simpa using c0, by simpa using c1⟩
    obtain ⟨q, hq⟩ := Go.Deep.choose_lt each
    refine ⟨some ad, len, cap, (List.range len).map q, hcs, by simp, hl, (fun k hk => ?_), (fun z hz => ?_)⟩
    · rw [List.length_map, List.length_range] at hk
      obtain ⟨_, h0, h1⟩ := hq k hk
      have e : ((List.range len).map q).getD k H2.no = q k := by
        rw [List.getD_eq_getElem?_getD, List.getElem?_map, List.getElem?_range hk]
        rfl
      rw [e]
      exact ⟨ad, rfl, by have := block_lt h0; rw [add_block] at this; exact this, h0, h1⟩
    · obtain ⟨i, hi, rfl⟩ := List.mem_map.1 hz
      exact (hq i (List.mem_range.1 hi)).1
/-- An act: kind, number, where its handles lie, the handles. -/
structure ActZ where
  kind : Int
  num : Int
  adr : Option Addr
  cap : Nat
  hs : List H2
def ActZ.no : ActZ := ⟨0, 0, none, 0, []⟩
instance : Inhabited ActZ := ⟨ActZ.no⟩
def ActZ.ok (w : World) (z : ActZ) : Prop := I64 z.kind ∧ I64 z.num ∧ SlcH w z.adr z.hs.length z.cap z.hs
def RdA (w : World) (A : Option Addr) (zs : List ActZ) : Prop := ∀ k, k < zs.length → ∃ ad, A = some ad ∧ ad.block < w.heap.size ∧ w.cell? (ad.add (k * 3)) = some (.int .i64 (zs.getD k ActZ.no).kind) ∧
  w.cell? (ad.add (k * 3 + 1)) = some (.int .i64 (zs.getD k ActZ.no).num) ∧ w.cell? (ad.add (k * 3 + 2)) = some (.slice (zs.getD k ActZ.no).adr (zs.getD k ActZ.no).hs.length (zs.getD k ActZ.no).cap) ∧ (zs.getD k ActZ.no).ok w
def SlcA (w : World) (a : Option Addr) (l c : Nat) (zs : List ActZ) : Prop := zs.length = l ∧ l ≤ c ∧ RdA w a zs
theorem SlcA.none_ (w : World) : SlcA w none 0 0 [] := ⟨rfl, Nat.le_refl _, fun k hk => by simp at hk⟩
theorem ActZ.ok.below {w w' : World} {z : ActZ} {B : Nat} (h : z.ok w) (hB : w.heap.size ≤ B) (hb : Below B w w') : z.ok w' := ⟨h.1, h.2.1, h.2.2.1, h.2.2.2.1, h.2.2.2.2.1.below hB hb, h.2.2.2.2.2⟩
theorem RdA.below {w w' : World} {B : Nat} {A : Option Addr} {zs : List ActZ} (h : RdA w A zs) (hB : w.heap.size ≤ B) (hb : Below B w w') : RdA w' A zs := by
  intro k hk
  obtain ⟨ad, e, hlt, h0, h1, h2, h3⟩ := h k hk
  have hbl : ∀ j, (ad.add j).block = ad.block := fun j => add_block ad j
  have hk3 := hb.block ad.block (by omega)
  have ke : ∀ j, w'.cell? (ad.add j) = w.cell? (ad.add j) := fun j => World.cell?_of_block (by rw [hbl]; exact hk3)
  exact ⟨ad, e, Nat.lt_of_lt_of_le hlt hb.size, (ke _).trans h0, (ke _).trans h1, (ke _).trans h2, h3.below hB hb⟩
/-- As a load of the whole act asks it. -/
theorem RdA.at3 {w : World} {A : Option Addr} {zs : List ActZ} (h : RdA w A zs) {k : Nat} (hk : k < zs.length) : ∃ ad, A = some ad ∧ ad.block < w.heap.size ∧ w.cell? (ad.add (k * 3)) = some (.int .i64 (zs.getD k ActZ.no).kind) ∧
    w.cell? { block := (ad.add (k * 3)).block, off := (ad.add (k * 3)).off + 1 } = some (.int .i64 (zs.getD k ActZ.no).num) ∧
    w.cell? { block := (ad.add (k * 3)).block, off := (ad.add (k * 3)).off + 2 } = some (.slice (zs.getD k ActZ.no).adr (zs.getD k ActZ.no).hs.length (zs.getD k ActZ.no).cap) ∧ (zs.getD k ActZ.no).ok w := by
  obtain ⟨ad, e, hb, h0, h1, h2, h3⟩ := h k hk
  rw [← Go.Deep.add_add, add_formH] at h1 h2
  exact ⟨ad, e, hb, h0, h1, h2, h3⟩
set_option maxRecDepth 100000 in
theorem open_acts {H : Type} {enc : TypeId × Value → H} {w : World} {base : Nat} {spare : Nat → Bool} {held : Bool} {fuel : Nat} {a : Option Addr} {l c : Nat} {x : DataW H × List MemPlace}
    (h : DataW.trod enc Try.prog w base spare held fuel 22 [.slice a l c] = some x) : ∃ zs, SlcA w a l c zs := by
  rcases Go.Deep.open_slice Try.underlying22 h with ⟨hcs, _⟩ | ⟨ad, len, cap, m, n, D, Pl, hcs, _, hl, hm, hmm, _, hx⟩
  · simp at hcs
    obtain ⟨rfl, rfl, rfl⟩ := hcs
    exact ⟨[], SlcA.none_ w⟩
  · simp at hcs
    obtain ⟨rfl, rfl, rfl⟩ := hcs
    have hlm : l ≤ m := by rw [hmm]; split <;> omega
    have ce : Try.prog.cellsOf 32 = 3 := by kernel_rfl
    have each : ∀ i, i < l → ∃ z : ActZ, z.ok w ∧ w.cell? (ad.add (i * 3)) = some (.int .i64 z.kind) ∧ w.cell? (ad.add (i * 3 + 1)) = some (.int .i64 z.num) ∧ w.cell? (ad.add (i * 3 + 2)) = some (.slice z.adr z.hs.length z.cap) := by
      intro i hi
      obtain ⟨cs', h1, h2⟩ := hx i (by omega)
      rw [ce] at h1
      obtain ⟨_, hlen, hcell⟩ := World.cells?_some h1
      obtain ⟨y2, y3, y4, n2, _, _, g2, g3, g4⟩ := Go.Deep.trod_struct3 Try.underlying32 h2
      match cs', hlen with
      | [v0, v1, v2], _ =>
        have ci : Try.prog.cellsOf 3 = 1 := by kernel_rfl
        have ch : Try.prog.cellsOf 30 = 1 := by kernel_rfl
        simp [ci, ch] at g2 g3 g4
        obtain ⟨kd, e1, _, w1⟩ := DataW.trod_int Try.underlying3 g2
        obtain ⟨nn, e2, _, w2⟩ := DataW.trod_int Try.underlying3 g3
        obtain ⟨ha, hl, hc, zs, e3, hz⟩ := open_hands g4
        simp at e1 e2 e3
        subst e1 e2 e3
        have c0 := hcell 0 (by omega)
        have c1 := hcell 1 (by omega)
        have c2 := hcell 2 (by omega)
        rw [Go.Deep.add_add] at c0 c1 c2
        obtain ⟨rfl, hz2, hz3, hz4⟩ := hz
        exact ⟨⟨kd, nn, ha, hc, zs⟩, ⟨i64_of w1, i64_of w2, rfl, hz2, hz3, hz4⟩, by simpa using c0, by simpa using c1, by simpa using c2⟩
    obtain ⟨q, hq⟩ := Go.Deep.choose_lt each
    refine ⟨(List.range l).map q, by simp, hl, (fun k hk => ?_)⟩
    rw [List.length_map, List.length_range] at hk
    obtain ⟨h3, h0, h1, h2⟩ := hq k hk
    have e : ((List.range l).map q).getD k ActZ.no = q k := by
      rw [List.getD_eq_getElem?_getD, List.getElem?_map, List.getElem?_range hk]
      rfl
    rw [e]
    exact ⟨ad, rfl, by have := block_lt h0; rw [add_block] at this; exact this, h0, h1, h2, h3⟩
end Go.Proofs.Ytomcpjgklecopaa
