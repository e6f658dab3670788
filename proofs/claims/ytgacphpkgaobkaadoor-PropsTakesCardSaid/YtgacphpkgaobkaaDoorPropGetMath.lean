/- Plain Lean: names are their runes' texts; what a name has behind what was set and dropped. -/
import Derived.Test.YtgacphpkgaobkaaDoorPropCode
import Derived.Test.YtgacphpkgaobkaaDoorPropIdx
set_option linter.unusedVariables false
namespace Go.Proofs.YtgacphpkgaobkaaDoor
open Go Go.RowKit

theorem validD_plain (l : List UInt8) : (∀ r ∈ runes l, r ≠ 65533) → Lib.validD l = true := by
  refine runes_ind (p := fun l => (∀ r ∈ runes l, r ≠ 65533) → Lib.validD l = true) (fun _ => rfl) ?_ l
  intro l hne ih h
  rw [Lib.validD_step l hne]
  rw [runes_step l hne] at h
  rw [if_neg (fun hb => h _ List.mem_cons_self (by rw [hb.1]; rfl))]
  exact ih (fun r hr => h r (List.mem_cons_of_mem _ hr))
theorem name_runes {rs : List Int} (h : nameL rs = true) : ∀ r ∈ rs, r ≠ 65533 := by
  cases rs with
  | nil => cases h
  | cons x r =>
    unfold nameL at h
    rw [Bool.and_eq_true, Bool.and_eq_true] at h
    intro y hy
    have hl : isLet y = true ∨ isDig y = true := by
      rcases List.mem_cons.1 hy with rfl | hy
      · exact .inl h.1.1
      · have := List.all_eq_true.1 h.1.2 y hy
        simpa using this
    rcases hl with hl | hl
    · unfold isLet at hl
      rw [decide_eq_true_iff] at hl
      omega
    · unfold isDig at hl
      rw [decide_eq_true_iff] at hl
      omega
theorem name_eq {a b : ByteArray} (ha : nameB a = true) (hb : nameB b = true) (h : cmpK a b = 0) : a = b := by
  have h1 := text_runes _ (validD_plain _ (name_runes ha))
  have h2 := text_runes _ (validD_plain _ (name_runes hb))
  have h3 := cmpK_zero h
  apply ByteArray.ext
  apply Array.ext'
  rw [← h1, ← h2, h3]
theorem cmpK_self (a : ByteArray) : cmpK a a = 0 := cmpL_self _
def Names (zs : List Prop4) : Prop := ∀ z ∈ zs, nameB z.1 = true
theorem getP_put : ∀ (zs : List Prop4) (p : Prop4) (key : ByteArray), Asc zs → Names zs → nameB p.1 = true → getP key (putFrom false zs p) = if p.1 = key then (p.2, true) else getP key zs
  | [], p, key, _, _, _ => by
    show getP key [p] = _
    unfold getP
    rfl
  | z :: r, p, key, ha, hn, hp => by
    have ih := getP_put r p key (List.pairwise_cons.1 ha).2 (fun y hy => hn y (List.mem_cons_of_mem _ hy)) hp
    by_cases h0 : 0 ≤ cmpK z.1 p.1
    · have hr : ∀ y ∈ r, cmpK y.1 p.1 ≠ 0 := fun y hy e => by
        have h1 := (List.pairwise_cons.1 ha).1 y hy
        rw [cmpK_right e] at h1
        omega
      have e : putFrom false (z :: r) p = [p] ++ ((if cmpK z.1 p.1 = 0 then [] else [z]) ++ r) := by
        unfold putFrom
        rw [if_pos ⟨h0, rfl⟩, decide_eq_true h0, Bool.false_or, putFrom_true r p hr]
      rw [e]
      show (if p.1 = key then (p.2, true) else getP key ((if cmpK z.1 p.1 = 0 then [] else [z]) ++ r)) = _
      by_cases hk : p.1 = key
      · rw [if_pos hk, if_pos hk]
      · rw [if_neg hk, if_neg hk]
        by_cases hc : cmpK z.1 p.1 = 0
        · have hz : z.1 = p.1 := name_eq (hn z List.mem_cons_self) hp hc
          rw [if_pos hc]
          show getP key r = if z.1 = key then (z.2, true) else getP key r
          rw [if_neg (by rw [hz]; exact hk)]
        · rw [if_neg hc]
          rfl
    · have e : putFrom false (z :: r) p = z :: putFrom false r p := by
        rw [show putFrom false (z :: r) p = (if 0 ≤ cmpK z.1 p.1 ∧ false = false then [p] else []) ++ ((if cmpK z.1 p.1 = 0 then [] else [z]) ++ putFrom (false || decide (0 ≤ cmpK z.1 p.1)) r p) from rfl]
        rw [if_neg (fun h => by omega), if_neg (by omega), decide_eq_false (by omega)]
        rfl
      rw [e]
      show (if z.1 = key then (z.2, true) else getP key (putFrom false r p)) = if p.1 = key then (p.2, true) else if z.1 = key then (z.2, true) else getP key r
      rw [ih]
      by_cases hk : p.1 = key
      · rw [if_pos hk, if_pos hk, if_neg]
        intro hz
        apply h0
        rw [hz, ← hk, cmpK_self]
        exact Int.le_refl _
      · rw [if_neg hk, if_neg hk]
def afterP (key : ByteArray) : List Prop4 → Val3 × Bool → Val3 × Bool
  | [], x => x
  | y :: r, x => afterP key r (if y.1 = key then (y.2, true) else x)
theorem names_put {zs : List Prop4} {p : Prop4} (h : Names zs) (hp : nameB p.1 = true) : Names (putFrom false zs p) := fun z hz => by
  rcases putFrom_mem _ _ _ _ hz with h1 | h1
  · exact h z h1
  · rw [h1]; exact hp
/-- What stands behind a Set that succeeded. -/
theorem setFrom_done : ∀ (ys acc x : List Prop4), setFrom acc ys = (0, x) → Asc acc → Names acc → faultP ys = 0 ∧ Asc x ∧ Names x ∧ x.length ≤ 16 ∧ ∀ key, getP key x = afterP key ys (getP key acc)
  | [], acc, x, h, ha, hn => by
    unfold setFrom at h
    by_cases hl : acc.length ≤ 16
    · rw [if_pos hl] at h
      obtain rfl : acc = x := by injection h
      exact ⟨rfl, ha, hn, hl, fun _ => rfl⟩
    · rw [if_neg hl] at h
      exact absurd (show (32 : Int) = 0 from congrArg Prod.fst h) (by decide)
  | y :: r, acc, x, h, ha, hn => by
    by_cases hf : faultP (y :: r) = 0
    · rw [setFrom_step hf] at h
      obtain ⟨h1, h2, h3⟩ := faultP_ok hf
      obtain ⟨g1, g2, g3, g4, g5⟩ := setFrom_done r _ x h (putFrom_asc acc y ha).1 (names_put hn h1)
      refine ⟨hf, g2, g3, g4, fun key => ?_⟩
      rw [g5 key, getP_put acc y key ha hn h1]
      rfl
    · rw [setFrom_bad _ _ hf] at h
      exact absurd (congrArg Prod.fst h) hf
theorem setP_done {zs ys x : List Prop4} (h : setP zs ys = (0, x)) : rightP zs = true ∧ faultP ys = 0 ∧ Asc x ∧ Names x ∧ x.length ≤ 16 ∧ ∀ key, getP key x = afterP key ys (getP key zs) := by
  unfold setP at h
  by_cases hr : rightP zs = true
  · rw [if_pos hr] at h
    have hri := (rightP_iff zs).1 hr
    obtain ⟨g1, g2, g3, g4, g5⟩ := setFrom_done ys zs x h hri.2.2 (fun z hz => (hri.2.1 z hz).1)
    exact ⟨hr, g1, g2, g3, g4, g5⟩
  · rw [if_neg hr] at h
    exact absurd (show (2 : Int) = 0 from congrArg Prod.fst h) (by decide)
theorem goneK_one (key : ByteArray) (z : Prop4) : goneK [key] z = decide (z.1 = key) := by
  unfold goneK
  simp only [List.any_cons, List.any_nil, Bool.or_false]
  by_cases h : z.1 = key
  · rw [decide_eq_true h]; exact str_same h.symm
  · rw [decide_eq_false h]; exact str_diff (fun e => h e.symm)
theorem getP_drop : ∀ (zs : List Prop4) (key : ByteArray), getP key (dropP zs [key]) = ((0, 0, ByteArray.empty), false)
  | [], key => rfl
  | z :: r, key => by
    have ih := getP_drop r key
    unfold dropP at ih ⊢
    rw [List.filter_cons]
    by_cases h : z.1 = key
    · rw [goneK_one, decide_eq_true h]
      exact ih
    · rw [goneK_one, decide_eq_false h]
      show (if z.1 = key then _ else getP key _) = _
      rw [if_neg h]
      exact ih
theorem dropP_len : ∀ (zs : List Prop4) (key : ByteArray), Asc zs → (dropP zs [key]).length + (if (getP key zs).2 then 1 else 0) = zs.length
  | [], key, _ => rfl
  | z :: r, key, ha => by
    have ih := dropP_len r key (List.pairwise_cons.1 ha).2
    by_cases h : z.1 = key
    · have hno : getP key r = ((0, 0, ByteArray.empty), false) := by
        apply getP_no
        intro k hk e
        have h1 := (List.pairwise_cons.1 ha).1 (r.getD k Prop4.no) (by rw [List.getD_eq_getElem?_getD, List.getElem?_eq_getElem hk]; exact List.getElem_mem hk)
        rw [e, h, cmpK_self] at h1
        omega
      have e1 : dropP (z :: r) [key] = dropP r [key] := by
        unfold dropP
        rw [List.filter_cons, goneK_one, decide_eq_true h]
        rfl
      have e2 : getP key (z :: r) = (z.2, true) := by
        show (if z.1 = key then _ else _) = _
        rw [if_pos h]
      rw [e1, e2, List.length_cons]
      rw [hno] at ih
      have ih' : (dropP r [key]).length + 0 = r.length := ih
      show (dropP r [key]).length + 1 = _
      omega
    · have e1 : dropP (z :: r) [key] = z :: dropP r [key] := by
        unfold dropP
        rw [List.filter_cons, goneK_one, decide_eq_false h]
        rfl
      have e2 : getP key (z :: r) = getP key r := by
        show (if z.1 = key then _ else _) = _
        rw [if_neg h]
      rw [e1, e2, List.length_cons, List.length_cons]
      omega
end Go.Proofs.YtgacphpkgaobkaaDoor
