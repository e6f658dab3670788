/- Numbers, truths and slices of numbers that come in: what a walk is told of them. -/
import Derived.Test.YtpmmbbkomikceaaDoorOwn
import Derived.ChangeArms
set_option linter.unusedVariables false
namespace Go.Proofs.YtpmmbbkomikceaaDoor
open Go Go.RowKit Go.WideShapes Go.ChangeShapes

def U64 (x : Int) : Prop := 0 ≤ x ∧ x < 18446744073709551616
def I64 (x : Int) : Prop := -9223372036854775808 ≤ x ∧ x ≤ 9223372036854775807
/-- What lies at an address on: these words. -/
def RdU (w : World) (A : Option Addr) (zs : List Int) : Prop := ∀ k, k < zs.length → ∃ ad, A = some ad ∧ ad.block < w.heap.size ∧ w.cell? (ad.add k) = some (.int .u64 (zs.getD k 0))
theorem RdU.below {w w' : World} {A : Option Addr} {zs : List Int} {B : Nat} (h : RdU w A zs) (hg : w.heap.size ≤ B) (hb : Below B w w') : RdU w' A zs := by
  intro k hk
  obtain ⟨ad, e, h1, h2⟩ := h k hk
  have h3 := hb.block ad.block (by omega)
  refine ⟨ad, e, by have := hb.size; omega, (World.cell?_of_block (a := ad.add k) (by unfold Addr.add; split <;> exact h3)).trans h2⟩
def Words (zs : List Int) : Prop := ∀ k, k < zs.length → U64 (zs.getD k 0)
theorem wf_u64 {n : Int} (h : (Lit.int .u64 n).wf = true) : U64 n := by
  simp [Lit.wf, IntKind.min, IntKind.max, IntKind.bits, IntKind.signed] at h
  exact ⟨h.1, by omega⟩
theorem wf_i64 {n : Int} (h : (Lit.int .i64 n).wf = true) : I64 n := bounds_i64 h
theorem open_boolN {H : Type} {enc : TypeId × Value → H} {P : Program} {w : World} {base : Nat} {spare : Nat → Bool} {held : Bool} {r : Reach} {b0 : Nat} {t : TypeId} {v : Value} {d : DataW H} {p : List MemPlace} (ht : P.underlying t = some .bool)
    (hv : Value.okWide P w r b0 t v) (h : DataW.Trod enc P w base spare held t v d p) : ∃ b, v = .bool b ∧ d = .lit (.bool b) ∧ p = [] := by
  obtain ⟨b, rfl⟩ := okWide_bool ht hv
  obtain ⟨fuel, hf⟩ := h
  obtain ⟨b', h1, h2⟩ := DataW.trod_bool ht hf
  simp [Value.cells] at h1
  subst h1
  simp only [Prod.mk.injEq] at h2
  exact ⟨b, rfl, h2.1, h2.2⟩
/-- A slice of words that came in. -/
def SlcU (w : World) (a : Option Addr) (l c : Nat) (z : List Int) : Prop := z.length = l ∧ l ≤ c ∧ RdU w a z ∧ Words z
theorem SlcU.none_ (w : World) : SlcU w none 0 0 [] := ⟨rfl, Nat.le_refl _, fun k hk => by simp at hk, fun n hn => by simp at hn⟩
theorem SlcU.some_ {w : World} {x : Addr} {l c : Nat} {zs : List Int} (hl : l ≤ c) (hz : zs.length = c) (hcell : ∀ i, i < zs.length → w.cell? (x.add i) = some (.int .u64 (zs.getD i 0))) (hw : ∀ n ∈ zs, (Lit.int .u64 n).wf = true) :
    SlcU w (some x) l c (zs.take l) := by
  refine ⟨by rw [List.length_take]; omega, hl, fun k hk => ?_, fun k hk => ?_⟩
  · rw [List.length_take] at hk
    have h1 := hcell k (by omega)
    refine ⟨x, rfl, by have := block_lt h1; rw [add_block] at this; exact this, ?_⟩
    rw [h1, List.getD_eq_getElem?_getD, List.getD_eq_getElem?_getD, List.getElem?_take, if_pos (by omega)]
  · have h2 : (zs.take l).getD k 0 ∈ zs.take l := by rw [List.getD_eq_getElem?_getD, List.getElem?_eq_getElem hk]; exact List.getElem_mem hk
    exact wf_u64 (hw _ (List.mem_of_mem_take h2))
/-- A slice of whole numbers that came in. -/
def RdI (w : World) (A : Option Addr) (zs : List Int) : Prop := ∀ k, k < zs.length → ∃ ad, A = some ad ∧ ad.block < w.heap.size ∧ w.cell? (ad.add k) = some (.int .i64 (zs.getD k 0))
theorem RdI.below {w w' : World} {A : Option Addr} {zs : List Int} {B : Nat} (h : RdI w A zs) (hg : w.heap.size ≤ B) (hb : Below B w w') : RdI w' A zs := by
  intro k hk
  obtain ⟨ad, e, h1, h2⟩ := h k hk
  have h3 := hb.block ad.block (by omega)
  refine ⟨ad, e, by have := hb.size; omega, (World.cell?_of_block (a := ad.add k) (by unfold Addr.add; split <;> exact h3)).trans h2⟩
def Ints (zs : List Int) : Prop := ∀ k, k < zs.length → I64 (zs.getD k 0)
def SlcI (w : World) (a : Option Addr) (l c : Nat) (z : List Int) : Prop := z.length = l ∧ l ≤ c ∧ RdI w a z ∧ Ints z
theorem SlcI.none_ (w : World) : SlcI w none 0 0 [] := ⟨rfl, Nat.le_refl _, fun k hk => by simp at hk, fun n hn => by simp at hn⟩
theorem SlcI.some_ {w : World} {x : Addr} {l c : Nat} {zs : List Int} (hl : l ≤ c) (hz : zs.length = c) (hcell : ∀ i, i < zs.length → w.cell? (x.add i) = some (.int .i64 (zs.getD i 0))) (hw : ∀ n ∈ zs, (Lit.int .i64 n).wf = true) :
    SlcI w (some x) l c (zs.take l) := by
  refine ⟨by rw [List.length_take]; omega, hl, fun k hk => ?_, fun k hk => ?_⟩
  · rw [List.length_take] at hk
    have h1 := hcell k (by omega)
    refine ⟨x, rfl, by have := block_lt h1; rw [add_block] at this; exact this, ?_⟩
    rw [h1, List.getD_eq_getElem?_getD, List.getD_eq_getElem?_getD, List.getElem?_take, if_pos (by omega)]
  · have h2 : (zs.take l).getD k 0 ∈ zs.take l := by rw [List.getD_eq_getElem?_getD, List.getElem?_eq_getElem hk]; exact List.getElem_mem hk
    exact wf_i64 (hw _ (List.mem_of_mem_take h2))
end Go.Proofs.YtpmmbbkomikceaaDoor
