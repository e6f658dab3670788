/- The functions that range over the runes of a text: Count, end, Cut, isName, Fold. -/
import Derived.Test.YtgacphpkgaobkaaDoorLeaf
import Derived.Laws.RangeAny
import Derived.Lib.OthersKept
import Derived.LoopTactic
set_option linter.unusedVariables false
namespace Go.Proofs.YtgacphpkgaobkaaDoor
open Go Go.RowKit

theorem runes_at (s : ByteArray) (pos : Nat) (h : pos < s.size) : runes (s.data.toList.drop pos) = ((Utf8.decode s pos).1 : Int) :: runes (s.data.toList.drop (pos + (Utf8.decode s pos).2)) := by
  have hne : s.data.toList.drop pos ≠ [] := by
    intro e
    have := congrArg List.length e
    rw [List.length_drop] at this
    simp only [List.length_nil, Array.length_toList] at this
    have h2 : s.data.size = s.size := rfl
    omega
  rw [runes_step _ hne, Lib.decodeL_drop, List.drop_drop]
theorem runes_end (s : ByteArray) (pos : Nat) (h : ¬ pos < s.size) : runes (s.data.toList.drop pos) = [] := by
  have h2 : s.data.size = s.size := rfl
  have : s.data.toList.drop pos = [] := List.drop_eq_nil_of_le (by simp; omega)
  rw [this]; rfl
theorem runes_le (s : ByteArray) : (runes s.data.toList).length ≤ s.size := by
  have := runes_length_le s.data.toList
  simpa using this
theorem width_pos (s : ByteArray) (pos : Nat) : 1 ≤ (Utf8.decode s pos).2 := Lib.width_pos s pos
theorem iter_below (w : World) (s : ByteArray) (pos : Nat) : Below w.heap.size w (w.iter s pos) := (Below.refl _ _).alloc (Nat.le_refl _) _

/-- Where the first n runes end, counted on from what has been passed. -/
theorem cutLen_at (s : ByteArray) (pos n : Nat) (h : pos < s.size) : cutLen (n + 1) (s.data.toList.drop pos) = (Utf8.decode s pos).2 + cutLen n (s.data.toList.drop (pos + (Utf8.decode s pos).2)) := by
  have hne : s.data.toList.drop pos ≠ [] := by
    intro e
    have := congrArg List.length e
    rw [List.length_drop] at this
    simp only [List.length_nil, Array.length_toList] at this
    have h2 : s.data.size = s.size := rfl
    omega
  rw [cutLen_step _ _ hne, Lib.decodeL_drop, List.drop_drop]
theorem cutLen_end (s : ByteArray) (pos n : Nat) (h : ¬ pos < s.size) : cutLen n (s.data.toList.drop pos) = 0 := by
  have h2 : s.data.size = s.size := rfl
  have : s.data.toList.drop pos = [] := List.drop_eq_nil_of_le (by simp; omega)
  rw [this, cutLen_nil]

theorem extract_zero (s : ByteArray) (k : Nat) : (s.extract 0 k).data.toList = s.data.toList.take k := by
  rw [ByteArray.data_extract, Array.toList_extract]
  simp [List.extract]
set_option maxHeartbeats 400000 in
theorem clone_any (s : ByteArray) (w : World) (hs : s.size ≤ 1000000) :
    Calls Tryd.prog 55 #[.string s] w fun e w' => e = .returned (.string s) ∧ Below w.heap.size w w' := by
  go_enter Tryd.func55, Tryd.ntmps55
  go_wp2_with (go_at_call 73; refine (Tryd.stringslite_Clone s _ (by omega)).mono ?_; rintro e w1 ⟨rfl, hb⟩)
  go_ret
  exact ⟨rfl, hb⟩
theorem cut_le (s : ByteArray) (n : Nat) : cutLen n s.data.toList ≤ s.size := by
  have h2 : s.data.size = s.size := rfl
  have := cutLen_le n s.data.toList
  rw [Array.length_toList] at this
  omega
/-- The state of the look at a name behind n runes. -/
def nameF : Nat → List Int → Bool
  | n, [] => decide (0 < n)
  | n, r :: rs => if n = 32 then false else if isLet r || (decide (n ≠ 0) && isDig r) then nameF (n + 1) rs else false
theorem nameF_cons (n : Nat) (r : Int) (rs : List Int) : nameF n (r :: rs) = if n = 32 then false else if isLet r || (decide (n ≠ 0) && isDig r) then nameF (n + 1) rs else false := rfl
theorem nameF_pos : ∀ (rs : List Int) (n : Nat), 0 < n → n ≤ 32 → nameF n rs = (rs.all (fun x => isLet x || isDig x) && decide (n + rs.length ≤ 32))
  | [], n, h0, h => by simp [nameF, h0, h]
  | r :: rs, n, h0, h => by
    unfold nameF
    by_cases h32 : n = 32
    · subst h32
      simp
    · rw [if_neg h32]
      have hn : decide (n ≠ 0) = true := by simp; omega
      rw [hn, Bool.true_and]
      have ih := nameF_pos rs (n + 1) (by omega) (by omega)
      cases hb : (isLet r || isDig r)
      · simp [hb]
      · rw [if_pos rfl, ih, List.all_cons, hb, Bool.true_and, List.length_cons]
        have e : n + (rs.length + 1) = n + 1 + rs.length := by omega
        rw [e]
theorem nameF_zero (rs : List Int) : nameF 0 rs = nameL rs := by
  cases rs with
  | nil => rfl
  | cons r rs =>
    rw [nameF_cons, if_neg (by omega)]
    unfold nameL
    cases hb : isLet r
    · simp [hb]
    · rw [nameF_pos rs 1 (by omega) (by omega)]
      have e : (1 + rs.length ≤ 32) = (rs.length < 32) := propext ⟨fun h => by omega, fun h => by omega⟩
      simp [e, hb]

set_option maxHeartbeats 1000000 in
theorem isName_any (s : ByteArray) (w : World) (hs : s.size ≤ 1000000) :
    Calls Tryd.prog 68 #[.string s] w fun e w' => e = .returned (.bool (nameL (runes s.data.toList))) ∧ Below w.heap.size w w' := by
  rw [← nameF_zero]
  go_enter Tryd.func68, Tryd.ntmps68
  go_wp2
  go_loopw [3] (fun n wr => ∃ pos k : Nat, wr = w.iter s pos ∧ n = .int .i64 (k : Nat) ∧ k ≤ 32 ∧ nameF k (runes (s.data.toList.drop pos)) = nameF 0 (runes s.data.toList)) (fun _ wr => s.size - wr.iterPos w.heap.size)
  case atStart => exact ⟨0, 0, rfl, rfl, by omega, by simp⟩
  case round =>
    obtain ⟨pos, k, rfl, rfl, hk32, hk⟩ := hrel
    have hwd := width_pos s pos
    by_cases hp : pos < s.size
    · have hnx : ∀ ty, (Instr.next (.pointer (some ⟨w.heap.size, 0, none⟩)) true ty).run Tryd.prog (w.iter s pos) = _ := fun ty => run_next_any w s pos ty hp
      have hst := runes_at s pos hp
      rw [hst, nameF_cons] at hk
      by_cases h32 : k = 32
      · rw [if_pos h32] at hk
        have HK := Lib.hid hk
        have ht : ((k : Int) == 32) = true := by rw [beq_iff_eq]; omega
        clear hk hst h32
        go_wp2
        go_ret
        exact ⟨ret_bool HK.out, iter_below w s _⟩
      · rw [if_neg h32] at hk
        have HK := Lib.hid hk
        have ht : ((k : Int) == 32) = false := by rw [beq_eq_false_iff_ne]; omega
        have hk31 : k ≤ 31 := by omega
        clear hk hst h32
        by_cases hl : isLet ((Utf8.decode s pos).1 : Int) = true
        · go_wp2_with (go_at_call 78; refine (isLetter_any _ _).mono ?_; rintro e w1 ⟨rfl, rfl⟩)
          go_roundw
          case rel => exact ⟨pos + (Utf8.decode s pos).2, k + 1, rfl, by go_num, by omega, by have := HK.out; rw [hl] at this; simpa using this⟩
          case measure => simp only [World.iterPos_iter]; omega
        · have hl : isLet ((Utf8.decode s pos).1 : Int) = false := by simpa using hl
          by_cases h0 : k = 0
          · have h0t : ((k : Int) == 0) = true := by rw [beq_iff_eq]; omega
            have HK2 : Hid (false = nameF 0 (runes s.data.toList)) := by refine Lib.hid ?_; have := HK.out; rw [hl] at this; simpa [h0] using this
            clear HK h0
            go_wp2_with (go_at_call 78; refine (isLetter_any _ _).mono ?_; rintro e w1 ⟨rfl, rfl⟩)
            go_ret
            exact ⟨ret_bool HK2.out, iter_below w s _⟩
          · have h0t : ((k : Int) == 0) = false := by rw [beq_eq_false_iff_ne]; omega
            by_cases hd : isDig ((Utf8.decode s pos).1 : Int) = true
            · have HK2 : Hid (nameF (k + 1) (runes (s.data.toList.drop (pos + (Utf8.decode s pos).2))) = nameF 0 (runes s.data.toList)) := by refine Lib.hid ?_; have := HK.out; rw [hl, hd] at this; simpa [h0] using this
              clear HK h0
              go_wp2_with (first
                | (go_at_call 78; refine (isLetter_any _ _).mono ?_; rintro e w1 ⟨rfl, rfl⟩)
                | (go_at_call 79; refine (isDigit_any _ _).mono ?_; rintro e w1 ⟨rfl, rfl⟩))
              go_roundw
              case rel => exact ⟨pos + (Utf8.decode s pos).2, k + 1, rfl, by go_num, by omega, HK2.out⟩
              case measure => simp only [World.iterPos_iter]; omega
            · have hd : isDig ((Utf8.decode s pos).1 : Int) = false := by simpa using hd
              have HK2 : Hid (false = nameF 0 (runes s.data.toList)) := by refine Lib.hid ?_; have := HK.out; rw [hl, hd] at this; simpa using this
              clear HK h0
              go_wp2_with (first
                | (go_at_call 78; refine (isLetter_any _ _).mono ?_; rintro e w1 ⟨rfl, rfl⟩)
                | (go_at_call 79; refine (isDigit_any _ _).mono ?_; rintro e w1 ⟨rfl, rfl⟩))
              go_ret
              exact ⟨ret_bool HK2.out, iter_below w s _⟩
    · have hnx : ∀ ty, (Instr.next (.pointer (some ⟨w.heap.size, 0, none⟩)) true ty).run Tryd.prog (w.iter s pos) = _ := fun ty => run_next_end w s pos ty hp
      rw [runes_end s pos hp] at hk
      have HK := Lib.hid hk
      clear hk
      go_wp2
      go_ret
      exact ⟨ret_bool (by have := HK.out; rw [← this]; simp [nameF]), iter_below w s pos⟩

end Go.Proofs.YtgacphpkgaobkaaDoor
