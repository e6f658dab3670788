/- The document's own answers for lists of properties: what bytes begin with, as a plain function. -/
import Derived.Test.YtgacphpkgaobkaaDoorPropSet
import Derived.Test.YtgacphpkgaobkaaDoorValTake
set_option linter.unusedVariables false
namespace Go.Proofs.YtgacphpkgaobkaaDoor
open Go Go.RowKit

/-- A value taken: kind, number, text; how many bytes; the error. -/
def tvP : List UInt8 → (Int × Int × ByteArray) × Nat × Int
  | [] => ((0, 0, ⟨#[]⟩), 0, 20)
  | c :: r =>
    if c = 1 then (if r.length < 8 then ((0, 0, ⟨#[]⟩), 0, 20) else ((1, (valN 0 (r.take 8) : Int) - 9223372036854775808, ⟨#[]⟩), 9, 0))
    else if c = 2 then (match takeS [] 1 r with | .ok s n => ((2, 0, ⟨s.toArray⟩), n, 0) | .no e => ((0, 0, ⟨#[]⟩), 0, e)) else ((0, 0, ⟨#[]⟩), 0, 22)
theorem takeV_tv (bs : List UInt8) : takeV bs = .tuple #[valV (tvP bs).1.1 (tvP bs).1.2.1 (tvP bs).1.2.2, .int .i64 ((tvP bs).2.1 : Int), .int .i64 (tvP bs).2.2] := by
  cases bs with
  | nil => rfl
  | cons c r =>
    unfold takeV tvP
    by_cases c1 : c = 1
    · simp only [c1, if_true]
      split <;> rfl
    · by_cases c2 : c = 2
      · simp only [c2, if_true, if_false, show ¬ ((2 : UInt8) = 1) from by decide]
        cases takeS [] 1 r <;> rfl
      · simp only [c1, c2, if_false]
        rfl
theorem takeS_len : ∀ (N : Nat) (acc : List UInt8) (at1 : Nat) (r s : List UInt8) (n : Nat), r.length ≤ N → takeS acc at1 r = .ok s n → n ≤ at1 + r.length
  | N, acc, at1, [], s, n, _, h => by simp [takeS] at h
  | N, acc, at1, [c], s, n, _, h => by
    unfold takeS at h
    split at h
    · cases h
    · split at h <;> cases h
  | 0, acc, at1, c :: d :: r, s, n, hl, h => by simp at hl
  | N + 1, acc, at1, c :: d :: r, s, n, hl, h => by
    simp only [List.length_cons] at hl ⊢
    unfold takeS at h
    split at h
    · split at h
      · cases h; omega
      · split at h
        · split at h
          · cases h
          · have := takeS_len N _ _ r s n (by omega) h
            omega
        · cases h
    · split at h
      · cases h
      · have := takeS_len N _ _ (d :: r) s n (by simp only [List.length_cons]; omega) h
        simp only [List.length_cons] at this
        omega
theorem tvP_len (bs : List UInt8) : (tvP bs).2.1 ≤ bs.length := by
  cases bs with
  | nil => exact Nat.le_refl _
  | cons c r =>
    unfold tvP
    rw [List.length_cons]
    by_cases c1 : c = 1
    · simp only [c1, if_true]
      split
      · exact Nat.zero_le _
      · show 9 ≤ r.length + 1; omega
    · by_cases c2 : c = 2
      · simp only [c2, if_true, if_false, show ¬ ((2 : UInt8) = 1) from by decide]
        cases h : takeS [] 1 r with
        | ok s n => have := takeS_len r.length _ _ _ _ _ (Nat.le_refl _) h; show n ≤ _; omega
        | no e => exact Nat.zero_le _
      · simp only [c1, c2, if_false]
        exact Nat.zero_le _
def keyAt (bs : List UInt8) (p : Nat) : ByteArray := ⟨((bs.drop (p + 1)).take (bs.getD p 0).toNat).toArray⟩
def lastK (acc : List Prop4) : Option ByteArray := if acc.length = 0 then none else some (acc.getD (acc.length - 1) Prop4.no).1
/-- The error, where the rest begins, the list. -/
def takeFrom (bs : List UInt8) : Nat → Nat → List Prop4 → Int × Nat × List Prop4
  | 0, p, acc => (0, p, acc)
  | k + 1, p, acc =>
    if bs.length ≤ p then (20, 0, []) else
    if bs.length < p + 1 + (bs.getD p 0).toNat then (20, 0, []) else
    if nameL (runes (keyAt bs p).data.toList) = false then (30, 0, []) else
    if aboveK (lastK acc) (keyAt bs p, 0, 0, ⟨#[]⟩) = false then (30, 0, []) else
    let t := tvP (bs.drop (p + 1 + (bs.getD p 0).toNat))
    if t.2.2 ≠ 0 then (t.2.2, 0, []) else
    takeFrom bs k (p + 1 + (bs.getD p 0).toNat + t.2.1) (acc ++ [(keyAt bs p, t.1.1, t.1.2.1, t.1.2.2)])
def takeP (bs : List UInt8) : Int × Nat × List Prop4 :=
  if bs.length = 0 then (20, 0, []) else if 16 < (bs.getD 0 0).toNat then (10, 0, []) else takeFrom bs (bs.getD 0 0).toNat 1 []
theorem RdB.dropT {w : World} {ab : Addr} {bs : List UInt8} (h : RdB w (some ab) bs) (m : Nat) : RdB w (some (ab.add m)) (bs.drop m) := by
  intro k hk
  rw [List.length_drop] at hk
  obtain ⟨ad, e, h1, h2⟩ := h (m + k) (by omega)
  obtain rfl : ab = ad := by injection e
  refine ⟨_, rfl, by rw [add_block]; exact h1, ?_⟩
  have eg : (bs.drop m).getD k 0 = bs.getD (m + k) 0 := by
    rw [List.getD_eq_getElem?_getD, List.getD_eq_getElem?_getD, List.getElem?_drop]
  rw [Go.Deep.add_add, h2, eg]
theorem conv_slcT {w : World} {ad : Addr} {bs : List UInt8} (h : RdB w (some ad) bs) (m k cap : Nat) (hle : m + k ≤ bs.length) :
    (convert 43 9 (.slice (some (ad.add m)) k cap)).run Tryd.prog w = .ok (.string ⟨((bs.drop m).take k).toArray⟩) w := by
  have hk : ((bs.drop m).take k).length = k := by rw [List.length_take, List.length_drop]; omega
  have := run_convert_bytes_back (P := Tryd.prog) w 43 9 5 (ad.add m) cap ((bs.drop m).take k) Tryd.underlying43 Tryd.underlying5 Tryd.underlying9 (fun j hj => by
    rw [hk] at hj
    obtain ⟨ae, e, _, h2⟩ := h.dropT m j (by rw [List.length_drop]; omega)
    obtain rfl : ad.add m = ae := by injection e
    rw [h2, List.getD_eq_getElem?_getD, List.getElem_take, List.getElem?_eq_getElem (by rw [List.length_drop]; omega)]
    rfl)
  rw [hk] at this
  exact this
end Go.Proofs.YtgacphpkgaobkaaDoor
