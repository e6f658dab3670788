/- How a law's values and bytes come in: what a walk is told of them. -/
import Derived.Test.YtgacphpkgaobkaaDoorValTake
import Derived.Test.YtgacphpkgaobkaaDoorOpen
import Derived.ProofKit
import Derived.OpenShut
import Derived.ShutString
import Derived.ChangeOld
import Derived.ChangeSlices
import Derived.Below
import Derived.Carry
import Derived.Lib.SmallJoins
set_option linter.unusedVariables false
namespace Go.Proofs.YtgacphpkgaobkaaDoor
open Go Go.RowKit Go.WideShapes Go.ChangeShapes

/-- A value that came in. -/
def ValIn (k n : Int) (s : ByteArray) : Prop := (-9223372036854775808 ≤ k ∧ k ≤ 9223372036854775807) ∧ (-9223372036854775808 ≤ n ∧ n ≤ 9223372036854775807) ∧ s.size ≤ maxLen
theorem i64_wf {n : Int} (h : (Lit.int .i64 n).wf = true) : -9223372036854775808 ≤ n ∧ n ≤ 9223372036854775807 := bounds_i64 h
set_option maxRecDepth 100000 in
theorem open_val {H : Type} {enc : TypeId × Value → H} {w : World} {base : Nat} {spare : Nat → Bool} {held : Bool} {r : Reach} {b0 : Nat} {v : Value} {d : DataW H} {p : List MemPlace}
    (hv : Value.okWide Tryd.prog w r b0 36 v) (h : DataW.Trod enc Tryd.prog w base spare held 36 v d p) :
    ∃ k n s, v = valV k n s ∧ p = [] ∧ ValIn k n s := by
  obtain ⟨v0, v1, v2, y0, y1, y2, m, rfl, rfl, rfl, h0, h1, h2⟩ := Go.Joins.open_agg3 Tryd.underlying36 (by kernel_rfl) (by kernel_rfl) hv h
  obtain ⟨k, e0, rfl, w0⟩ := DataW.trod_int Tryd.underlying3 h0
  obtain ⟨n, e1, rfl, w1⟩ := DataW.trod_int Tryd.underlying3 h1
  obtain ⟨s, e2, rfl, w2⟩ := DataW.trod_string Tryd.underlying9 h2
  obtain rfl : v0 = .int .i64 k := by simpa using e0
  obtain rfl : v1 = .int .i64 n := by simpa using e1
  obtain rfl : v2 = .string s := by simpa using e2
  exact ⟨k, n, s, rfl, rfl, i64_wf w0, i64_wf w1, w2⟩

/-- A slice of bytes that came in. -/
def SlcB (w : World) (a : Option Addr) (l c : Nat) (z : List UInt8) : Prop := z.length = l ∧ l ≤ c ∧ RdB w a z
theorem SlcB.none_ (w : World) : SlcB w none 0 0 [] := ⟨rfl, Nat.le_refl _, fun k hk => by simp at hk⟩
theorem u8v_back {n : Int} (h0 : 0 ≤ n) (h1 : n ≤ 255) : u8v (UInt8.ofNat n.toNat) = .int .u8 n := by
  rw [u8v_ofNat]
  have : ((n.toNat : Nat) : Int) = n := Int.toNat_of_nonneg h0
  rw [this, Int.emod_eq_of_lt h0 (by omega)]
theorem u8_wf {n : Int} (h : (Lit.int .u8 n).wf = true) : 0 ≤ n ∧ n ≤ 255 := by
  simp [Lit.wf, IntKind.min, IntKind.max, IntKind.bits, IntKind.signed] at h
  omega
theorem SlcB.some_ {w : World} {x : Addr} {l c : Nat} {zs : List Int} (hl : l ≤ c) (hz : zs.length = c) (hcell : ∀ i, i < zs.length → w.cell? (x.add i) = some (.int .u8 (zs.getD i 0))) (hw : ∀ n ∈ zs, (Lit.int .u8 n).wf = true) :
    SlcB w (some x) l c ((zs.take l).map (fun n => UInt8.ofNat n.toNat)) := by
  refine ⟨by rw [List.length_map, List.length_take]; omega, hl, fun k hk => ?_⟩
  rw [List.length_map, List.length_take] at hk
  have hk2 : k < zs.length := by omega
  have h1 := hcell k hk2
  refine ⟨x, rfl, by have := block_lt h1; rw [add_block] at this; exact this, ?_⟩
  rw [h1]
  have e1 : zs.getD k 0 = zs[k] := by simp [List.getD_eq_getElem?_getD, List.getElem?_eq_getElem hk2]
  have hb := u8_wf (hw zs[k] (List.getElem_mem hk2))
  have e2 : ((zs.take l).map (fun n => UInt8.ofNat n.toNat)).getD k 0 = UInt8.ofNat zs[k].toNat := by
    rw [List.getD_eq_getElem?_getD, List.getElem?_map, List.getElem?_take, if_pos (by omega), List.getElem?_eq_getElem hk2]
    rfl
  rw [e1, e2, u8v_back hb.1 hb.2]
end Go.Proofs.YtgacphpkgaobkaaDoor
