/- Whether a text fits a pattern: the program's fits and Like. -/
import Derived.Test.YtgacphpkgaobkaaDoorFits
set_option linter.unusedVariables false
namespace Go.Proofs.YtgacphpkgaobkaaDoor
open Go Go.RowKit

theorem RowB.iterAt {w : World} {B g K : Nat} {bs : List Bool} {s : ByteArray} {pos : Nat} (h : RowB w B g bs) (hk : w.heap[K]? = some (.stringIter s pos)) (p : Nat) : RowB (w.iterAt K s p) B g bs := by
  unfold RowB at h ⊢
  rcases h.2 with ⟨hv, _⟩ | ⟨g', cap, cur, hv, hB, hgg, hrest⟩
  · cases hv
  · have e : g = g' := by injection hv with hv; injection hv with hv; injection hv
    subst e
    have hne : g ≠ K := by
      intro e1
      rw [e1, hk] at hgg
      cases hgg
    exact ⟨h.1, .inr ⟨g, cap, cur, hv, hB, (Lib.iterAt_other w K g s p hne).trans hgg, hrest⟩⟩
theorem iter_keep {w w' : World} {K : Nat} {s : ByteArray} {pos : Nat} (hk : w.heap[K]? = some (.stringIter s pos)) (hb : Below w.heap.size w w') : w'.heap[K]? = some (.stringIter s pos) :=
  (hb.block K (Array.getElem?_eq_some_iff.1 hk).1).trans hk
theorem reach_last (s ps : List Int) : reachF s ps ps.length = fitsL s ps.reverse := by unfold reachF; rw [List.take_length]

/-! ### '[]rune(s)' -/
theorem runesFrom_eq (s : ByteArray) : ∀ (bound i : Nat) (acc : Array Value), s.size - i ≤ bound → Conv.runesFrom s bound i acc = acc ++ ((runes (s.data.toList.drop i)).map (Value.int .i32)).toArray
  | 0, i, acc, h => by
    rw [runes_end s i (by omega)]
    simp [Conv.runesFrom]
  | bound + 1, i, acc, h => by
    unfold Conv.runesFrom
    by_cases hi : i < s.size
    · have hw := width_pos s i
      rw [if_pos hi]
      dsimp only
      rw [runesFrom_eq s bound _ _ (by omega), runes_at s i hi]
      simp
    · rw [if_neg hi, runes_end s i hi]
      simp
theorem runesFrom_all (s : ByteArray) : Conv.runesFrom s s.size 0 #[] = ((runes s.data.toList).map (Value.int .i32)).toArray := by
  rw [runesFrom_eq s s.size 0 #[] (by omega)]
  simp
def runeCap (W : World) (n : Nat) : Nat := grownCap W n 0 21
def runeObj (W : World) (rs : List Int) : Obj := .cells ((rs.map (Value.int .i32)).toArray ++ Array.replicate (runeCap W rs.length - rs.length) (.int .i32 0)) 21
theorem runeCap_ge (W : World) (n : Nat) : n ≤ runeCap W n := grownCap_ge W n 0 _
theorem conv_runes (s : ByteArray) (rs : List Int) (h : runes s.data.toList = rs) (hs : s.size ≤ 1000000) (W : World) :
    (convert 9 81 (.string s)).run Tryd.prog W = .ok (.slice (some ⟨W.heap.size, 0, none⟩) rs.length (runeCap W rs.length)) (W.drew.alloc (runeObj W rs)) := by
  subst h
  have hl := runes_le s
  have hr := run_runes_of_string (P := Tryd.prog) W 9 81 21 s Tryd.underlying9 Tryd.underlying81 Tryd.underlying21 (by rw [runesFrom_all]; simp; omega)
  rw [runesFrom_all] at hr
  simp only [List.size_toArray, List.length_map] at hr
  exact hr
theorem runeObj_rd (W V : World) (rs : List Int) : Rd (W.alloc (runeObj V rs)) (some ⟨W.heap.size, 0, none⟩) rs := by
  intro k hk
  refine ⟨_, rfl, by simp, ?_⟩
  have h1 : (⟨W.heap.size, 0, none⟩ : Addr).add k = ⟨W.heap.size, k, none⟩ := by
    unfold Addr.add
    split
    · rename_i h0; subst h0; rfl
    · simp
  rw [h1]
  unfold runeObj
  rw [World.cell?_alloc_mark]
  rw [Array.getElem?_append_left (by simpa using hk)]
  simp [List.getD_eq_getElem?_getD, List.getElem?_eq_getElem hk]

theorem runeObj_rdd (W V : World) (rs : List Int) : Rd (W.alloc (runeObj V rs)).drew (some ⟨W.heap.size, 0, none⟩) rs := runeObj_rd W V rs
theorem bt {w a b : World} (h1 : Below w.heap.size w a) (h2 : Below a.heap.size a b) : Below w.heap.size w b := h1.trans (h2.mono h1.size)
theorem below_rune (W V : World) (rs : List Int) : Below W.heap.size W (W.alloc (runeObj V rs)).drew := ((Below.refl _ _).alloc (Nat.le_refl _) _).drew
theorem ret_two {a b : Bool} {n : Int} (h : a = b) : Ending.returned (.tuple #[.bool a, .int .i64 n]) = .returned (.tuple #[.bool b, .int .i64 n]) := by rw [h]
def likeR (s p : List Int) : Value := if 200 < s.length ∨ 200 < p.length then .tuple #[.bool false, .int .i64 32] else .tuple #[.bool (fitsL s.reverse p.reverse), .int .i64 0]

end Go.Proofs.YtgacphpkgaobkaaDoor
