/- How slices of blocks come in. -/
import Derived.Test.YtpmmbbkomikceaaDoorOpenG
import Derived.Test.YtpmmbbkomikceaaDoorBlRef
set_option linter.unusedVariables false
namespace Go.Proofs.YtpmmbbkomikceaaDoor
open Go Go.RowKit Go.WideShapes Go.ChangeShapes

/-- A slice of blocks that came in. -/
def SlcL (w : World) (a : Option Addr) (l c : Nat) (zs : List BlZ) : Prop := zs.length = l ∧ l ≤ c ∧ RdL w a zs
set_option maxRecDepth 100000 in
theorem open_blk {H : Type} {enc : TypeId × Value → H} {w : World} {base : Nat} {spare : Nat → Bool} {held : Bool} {fuel : Nat} {v0 v1 : Value} {x : DataW H × List MemPlace}
    (h : DataW.trod enc Tryd.prog w base spare held fuel 40 [v0, v1] = some x) : ∃ z : BlZ, z.body.ok w ∧ v0 = .int .u8 (z.kind.toNat : Int) ∧ v1 = z.body.val := by
  obtain ⟨y0, y1, n', _, _, g0, g1⟩ := trod_struct2 Tryd.underlying40 h
  have ci : Tryd.prog.cellsOf 5 = 1 := by kernel_rfl
  have ch : Tryd.prog.cellsOf 24 = 1 := by kernel_rfl
  simp [ci, ch] at g0 g1
  obtain ⟨n, e0, _, wf⟩ := DataW.trod_int Tryd.underlying5 g0
  obtain ⟨a, l, c, zs, e1, rfl, hz2, hz3⟩ := open_bs g1
  simp at e0 e1
  subst e0 e1
  have hb : 0 ≤ n ∧ n < 256 := by
    simp [Lit.wf, IntKind.min, IntKind.max, IntKind.bits, IntKind.signed] at wf
    omega
  refine ⟨⟨UInt8.ofNat n.toNat, a, c, zs⟩, ⟨hz2, hz3⟩, ?_, rfl⟩
  have : ((UInt8.ofNat n.toNat).toNat : Int) = n := by
    rw [UInt8.toNat_ofNat', Nat.mod_eq_of_lt (by omega)]
    omega
  show Value.int .u8 n = Value.int .u8 ((UInt8.ofNat n.toNat).toNat : Int)
  rw [this]
set_option maxRecDepth 100000 in
theorem open_blks {H : Type} {enc : TypeId × Value → H} {w : World} {base : Nat} {spare : Nat → Bool} {held : Bool} {fuel : Nat} {a : Option Addr} {l c : Nat} {x : DataW H × List MemPlace}
    (h : DataW.trod enc Tryd.prog w base spare held fuel 29 [.slice a l c] = some x) : ∃ zs, SlcL w a l c zs := by
  rcases Go.Deep.open_slice Tryd.underlying29 h with ⟨hcs, _⟩ | ⟨ad, len, cap, m, n, D, Pl, hcs, _, hl, hm, hmm, _, hx⟩
  · simp at hcs
    obtain ⟨rfl, rfl, rfl⟩ := hcs
    exact ⟨[], rfl, Nat.le_refl _, LayG.Rd.nothing _, fun z hz => by cases hz⟩
  · simp at hcs
    obtain ⟨rfl, rfl, rfl⟩ := hcs
    have hlm : l ≤ m := by rw [hmm]; split <;> omega
    have ce : Tryd.prog.cellsOf 40 = 2 := by kernel_rfl
    have each : ∀ i, i < l → ∃ z : BlZ, z.body.ok w ∧ w.cell? (ad.add (i * 2)) = some (.int .u8 (z.kind.toNat : Int)) ∧ w.cell? (ad.add (i * 2 + 1)) = some z.body.val := by
      intro i hi
      obtain ⟨cs', h1, h2⟩ := hx i (by omega)
      rw [ce] at h1
      obtain ⟨_, hlen, hcell⟩ := World.cells?_some h1
      match cs', hlen with
      | [v0, v1], _ =>
        obtain ⟨z, hz, e0, e1⟩ := open_blk h2
        have c0 := hcell 0 (by omega)
        have c1 := hcell 1 (by omega)
        rw [Go.Deep.add_add] at c0 c1
        subst e0 e1
        exact ⟨z, hz, by simpa using c0, by simpa using c1⟩
    obtain ⟨q, hq⟩ := Go.Deep.choose_lt each
    refine ⟨(List.range l).map q, by simp, hl, (fun k hk => ?_), fun z hz => ?_⟩
    · rw [List.length_map, List.length_range] at hk
      obtain ⟨h3, h0, h1⟩ := hq k hk
      have e : ((List.range l).map q).getD k default = q k := by
        rw [List.getD_eq_getElem?_getD, List.getElem?_map, List.getElem?_range hk]
        rfl
      refine ⟨ad, rfl, by have := block_lt h0; rw [add_block] at this; exact this, fun j u hu => ?_⟩
      rw [e] at hu
      rw [show k * layL.size + j = k * 2 + j from rfl]
      match j, hu with
      | 0, hu => rw [← (Option.some.inj hu : _ = u)]; exact h0
      | 1, hu => rw [← (Option.some.inj hu : _ = u)]; exact h1
      | j + 2, hu => cases hu
    · obtain ⟨i, hi, rfl⟩ := List.mem_map.1 hz
      exact (hq i (List.mem_range.1 hi)).1
end Go.Proofs.YtpmmbbkomikceaaDoor
