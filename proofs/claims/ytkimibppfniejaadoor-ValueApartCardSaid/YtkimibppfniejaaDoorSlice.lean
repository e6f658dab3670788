/- The document's own functions on lists of runes: Runes, Text, Cut, Right, Fold. -/
import Derived.Test.YtkimibppfniejaaDoorRun
import Derived.WalkSmall
import Derived.Laws.OwnMore
set_option linter.unusedVariables false
namespace Go.Proofs.YtkimibppfniejaaDoor
open Go Go.RowKit

/-- What lies at an address on: these runes. -/
def Rd (w : World) (A : Option Addr) (rs : List Int) : Prop := ∀ k, k < rs.length → ∃ ad, A = some ad ∧ ad.block < w.heap.size ∧ w.cell? (ad.add k) = some (.int .i32 (rs.getD k 0))
/-- A row of runes that the call owns. -/
def Row (w : World) (B : Nat) (v : Value) (rs : List Int) : Prop := w.ownsRow B 21 1 v rs.length (rs.map (Value.int .i32))
theorem Row.rd {w : World} {B : Nat} {v : Value} {rs : List Int} (h : Row w B v rs) : ∃ A c, v = .slice A rs.length c ∧ rs.length ≤ c ∧ Rd w A rs := by
  unfold Row at h
  rcases h.2 with ⟨hv, hl⟩ | ⟨g, cap, cur, hv, hB, hg, hnc, hrest⟩
  · refine ⟨none, 0, by rw [hv, hl], by omega, ?_⟩
    intro k hk; omega
  · refine ⟨some ⟨g, 0, none⟩, cap, hv, hnc, ?_⟩
    intro k hk
    have hlt := h.lt g (by rw [hv]; rfl)
    refine ⟨_, rfl, hlt.2, ?_⟩
    refine h.cells (g := g) (by rw [hv]; rfl) k _ ?_
    simp [List.getD_eq_getElem?_getD, List.getElem?_eq_getElem hk]

theorem text_snoc (rs : List Int) (k : Nat) (h : k < rs.length) : text (rs.take (k + 1)) = text (rs.take k) ++ Lib.encodeRune (rs.getD k 0) := by
  rw [List.take_succ_eq_append_getElem h, text_append]
  simp [text, List.getD_eq_getElem?_getD, List.getElem?_eq_getElem h]
theorem encode_model (r : Int) : (Utf8.encode r).data.toList = Lib.encodeRune r := by
  by_cases hv : okR r = true
  · have h := hv
    unfold okR at h
    rw [decide_eq_true_eq] at h
    have hval : Utf8.valid r = true := by rw [validRune_eq]; unfold validRune; exact hv
    unfold Utf8.encode
    simp only [hval, if_true]
    by_cases c1 : r ≤ 127
    · rw [encode_one (by omega) c1, if_pos (by omega)]
    · by_cases c2 : r ≤ 2047
      · rw [encode_two (by omega) c2, if_neg (by omega), if_pos (by omega)]
        have e1 : (192 + r / 64).toNat = 192 + r.toNat / 64 := by omega
        have e2 : (128 + r % 64).toNat = 128 + r.toNat % 64 := by omega
        rw [e1, e2]
      · by_cases c3 : r ≤ 65535
        · rw [encode_three (by omega), if_neg (by omega), if_neg (by omega), if_pos (by omega)]
          have e1 : (224 + r / 4096).toNat = 224 + r.toNat / 4096 := by omega
          have e2 : (128 + r / 64 % 64).toNat = 128 + r.toNat / 64 % 64 := by omega
          have e3 : (128 + r % 64).toNat = 128 + r.toNat % 64 := by omega
          rw [e1, e2, e3]
        · rw [encode_four (by omega) (by omega), if_neg (by omega), if_neg (by omega), if_neg (by omega)]
          have e1 : (240 + r / 262144).toNat = 240 + r.toNat / 262144 := by omega
          have e2 : (128 + r / 4096 % 64).toNat = 128 + r.toNat / 4096 % 64 := by omega
          have e3 : (128 + r / 64 % 64).toNat = 128 + r.toNat / 64 % 64 := by omega
          have e4 : (128 + r % 64).toNat = 128 + r.toNat % 64 := by omega
          rw [e1, e2, e3, e4]
  · have hv' : okR r = false := by simpa using hv
    have hval : Utf8.valid r = false := by rw [validRune_eq]; unfold validRune; exact hv'
    rw [encode_bad hv']
    unfold Utf8.encode
    simp only [hval]
    rfl
theorem str_app (a : List UInt8) (b : ByteArray) : (⟨a.toArray⟩ : ByteArray) ++ b = ⟨(a ++ b.data.toList).toArray⟩ := by
  apply ByteArray.ext
  rw [ByteArray.data_append]
  simp

theorem rune_info : (Tryd.prog.info? 21).map (fun i => (i.zero, i.size, i.bytes)) = some (some (.int .i32 0), 1, 4) := by kernel_rfl
def RunesPost (w : World) (rs : List Int) (e : Ending) (w' : World) : Prop := ∃ v, e = .returned v ∧ Row w' (w.heap.size + 1) v rs ∧ Below w.heap.size w w'
theorem Row.snoc {w : World} {B n : Nat} {v : Value} {rs : List Int} {r : Int} (h : w.ownsRow B 21 1 v n (rs.map (Value.int .i32) ++ [.int .i32 r])) (hn : n = rs.length + 1) : Row w B v (rs ++ [r]) := by
  subst hn
  unfold Row
  simpa using h

end Go.Proofs.YtkimibppfniejaaDoor
