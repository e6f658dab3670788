/- The functions that range over the runes of a text: Count, end, Cut, isName, Fold. -/
import Derived.Test.YtcmikojlcckabaaLeaf
import Derived.Laws.RangeAny
import Derived.Lib.OthersKept
import Derived.LoopTactic
set_option linter.unusedVariables false
namespace Go.Proofs.Ytcmikojlcckabaa
open Go Go.RowKit

theorem runes_at (s : ByteArray) (pos : Nat) (h : pos < s.size) : runes (s.data.toList.drop pos) = ((Utf8.decode s pos).1 : Int) :: runes (s.data.toList.drop (pos + (Utf8.decode s pos).2)) := by
  have hne : s.data.toList.drop pos ≠ [] := by
    intro e
    have := congrArg List.length e
    rw [List.length_drop] at this
    simp only [List.length_nil, Array.length_toList] at this
    have h2 : s.data.size = s.size := rfl
    omega
  rw [runes_step _ hne, Lib.decodeL_drop, List.drop_drop]
theorem runes_end (s : ByteArray) (pos : Nat) (h : ¬ pos < s.size) : runes (s.data.toList.drop pos) = [] := by
  have h2 : s.data.size = s.size := rfl
  have : s.data.toList.drop pos = [] := List.drop_eq_nil_of_le (by simp; omega)
  rw [this]; rfl
theorem runes_le (s : ByteArray) : (runes s.data.toList).length ≤ s.size := by
  have := runes_length_le s.data.toList
  simpa using this
theorem width_pos (s : ByteArray) (pos : Nat) : 1 ≤ (Utf8.decode s pos).2 := Lib.width_pos s pos
theorem iter_below (w : World) (s : ByteArray) (pos : Nat) : Below w.heap.size w (w.iter s pos) := (Below.refl _ _).alloc (Nat.le_refl _) _

set_option maxHeartbeats 400000 in
theorem count_any (s : ByteArray) (w : World) (hs : s.size ≤ 1000000) :
    Calls Try.prog 12 #[.string s] w fun e w' => e = .returned (.int .i64 (runes s.data.toList).length) ∧ Below w.heap.size w w' := by
  have hrl := runes_le s
  go_enter Try.func12, Try.ntmps12
  go_wp2
  go_loopw [3] (fun n wr => ∃ pos k : Nat, wr = w.iter s pos ∧ n = .int .i64 (k : Nat) ∧ k + (runes (s.data.toList.drop pos)).length = (runes s.data.toList).length) (fun _ wr => s.size - wr.iterPos w.heap.size)
  case atStart => exact ⟨0, 0, rfl, rfl, by simp⟩
  case round =>
    obtain ⟨pos, k, rfl, rfl, hk⟩ := hrel
    have hwd := width_pos s pos
    by_cases hp : pos < s.size
    · have hnx : ∀ ty, (Instr.next (.pointer (some ⟨w.heap.size, 0, none⟩)) true ty).run Try.prog (w.iter s pos) = _ := fun ty => run_next_any w s pos ty hp
      have hst := runes_at s pos hp
      rw [hst, List.length_cons] at hk
      have hkb : k ≤ 1000000 := by omega
      have HK := Lib.hid hk
      clear hk hst hrl
      go_wp2
      go_roundw
      case rel => exact ⟨pos + (Utf8.decode s pos).2, k + 1, rfl, by go_num, by have := HK.out; omega⟩
      case measure => simp only [World.iterPos_iter]; omega
    · have hnx : ∀ ty, (Instr.next (.pointer (some ⟨w.heap.size, 0, none⟩)) true ty).run Try.prog (w.iter s pos) = _ := fun ty => run_next_end w s pos ty hp
      rw [runes_end s pos hp] at hk
      have HK := Lib.hid hk
      clear hk hrl
      go_wp2
      go_ret
      exact ⟨ret_int (by have := HK.out; simp at this; omega), iter_below w s pos⟩

/-- Where the first n runes end, counted on from what has been passed. -/
theorem cutLen_at (s : ByteArray) (pos n : Nat) (h : pos < s.size) : cutLen (n + 1) (s.data.toList.drop pos) = (Utf8.decode s pos).2 + cutLen n (s.data.toList.drop (pos + (Utf8.decode s pos).2)) := by
  have hne : s.data.toList.drop pos ≠ [] := by
    intro e
    have := congrArg List.length e
    rw [List.length_drop] at this
    simp only [List.length_nil, Array.length_toList] at this
    have h2 : s.data.size = s.size := rfl
    omega
  rw [cutLen_step _ _ hne, Lib.decodeL_drop, List.drop_drop]
theorem cutLen_end (s : ByteArray) (pos n : Nat) (h : ¬ pos < s.size) : cutLen n (s.data.toList.drop pos) = 0 := by
  have h2 : s.data.size = s.size := rfl
  have : s.data.toList.drop pos = [] := List.drop_eq_nil_of_le (by simp; omega)
  rw [this, cutLen_nil]

set_option maxHeartbeats 400000 in
theorem end_any (s : ByteArray) (n : Int) (w : World) (hs : s.size ≤ 1000000) (hn0 : -9223372036854775808 ≤ n) (hn1 : n ≤ 9223372036854775807) :
    Calls Try.prog 26 #[.string s, .int .i64 n] w fun e w' => e = .returned (.int .i64 (cutLen n.toNat s.data.toList)) ∧ Below w.heap.size w w' := by
  go_enter Try.func26, Try.ntmps26
  go_wp2
  go_loopw [1] (fun m wr => ∃ (pos : Nat) (i : Int), wr = w.iter s pos ∧ m = .int .i64 i ∧ -9223372036854775808 ≤ i ∧ i ≤ 9223372036854775807 ∧ pos ≤ s.size ∧ pos + cutLen i.toNat (s.data.toList.drop pos) = cutLen n.toNat s.data.toList) (fun _ wr => s.size - wr.iterPos w.heap.size)
  case atStart => exact ⟨0, n, rfl, rfl, hn0, hn1, Nat.zero_le _, by simp⟩
  case round =>
    obtain ⟨pos, i, rfl, rfl, hi0, hi1, hps, hk⟩ := hrel
    have hwd := width_pos s pos
    by_cases hp : pos < s.size
    · have hnx : ∀ ty, (Instr.next (.pointer (some ⟨w.heap.size, 0, none⟩)) true ty).run Try.prog (w.iter s pos) = _ := fun ty => run_next_any w s pos ty hp
      by_cases hi : i ≤ 0
      · have e0 : i.toNat = 0 := by omega
        rw [e0] at hk
        have HK := Lib.hid hk
        clear hk e0
        go_wp2
        go_ret
        exact ⟨ret_int (by have := HK.out; simp [cutLen] at this; omega), iter_below w s _⟩
      · have e0 : i.toNat = (i - 1).toNat + 1 := by omega
        rw [e0, cutLen_at s pos _ hp] at hk
        have hle : pos + (Utf8.decode s pos).2 ≤ s.size := by
          have hne : s.data.toList.drop pos ≠ [] := by
            intro e
            have := congrArg List.length e
            rw [List.length_drop] at this
            simp only [List.length_nil, Array.length_toList] at this
            have h2 : s.data.size = s.size := rfl
            omega
          have := Lib.decodeL_le _ hne
          rw [Lib.decodeL_drop, List.length_drop, Array.length_toList] at this
          have h2 : s.data.size = s.size := rfl
          omega
        have HK := Lib.hid hk
        clear hk e0
        go_wp2
        go_roundw
        case rel => exact ⟨pos + (Utf8.decode s pos).2, i - 1, rfl, rfl, by omega, by omega, hle, by have := HK.out; omega⟩
        case measure => simp only [World.iterPos_iter]; omega
    · have hnx : ∀ ty, (Instr.next (.pointer (some ⟨w.heap.size, 0, none⟩)) true ty).run Try.prog (w.iter s pos) = _ := fun ty => run_next_end w s pos ty hp
      rw [cutLen_end s pos _ hp] at hk
      have HK := Lib.hid hk
      clear hk
      go_wp2
      go_ret
      exact ⟨ret_int (by have := HK.out; omega), iter_below w s pos⟩

theorem extract_zero (s : ByteArray) (k : Nat) : (s.extract 0 k).data.toList = s.data.toList.take k := by
  rw [ByteArray.data_extract, Array.toList_extract]
  simp [List.extract]
set_option maxHeartbeats 400000 in
theorem clone_any (s : ByteArray) (w : World) (hs : s.size ≤ 1000000) :
    Calls Try.prog 25 #[.string s] w fun e w' => e = .returned (.string s) ∧ Below w.heap.size w w' := by
  go_enter Try.func25, Try.ntmps25
  go_wp2_with (go_at_call 34; refine (Try.stringslite_Clone s _ (by omega)).mono ?_; rintro e w1 ⟨rfl, hb⟩)
  go_ret
  exact ⟨rfl, hb⟩
theorem cut_le (s : ByteArray) (n : Nat) : cutLen n s.data.toList ≤ s.size := by
  have h2 : s.data.size = s.size := rfl
  have := cutLen_le n s.data.toList
  rw [Array.length_toList] at this
  omega
set_option maxHeartbeats 400000 in
theorem cut_any (s : ByteArray) (n : Int) (w : World) (hs : s.size ≤ 1000000) (hn0 : -9223372036854775808 ≤ n) (hn1 : n ≤ 9223372036854775807) :
    Calls Try.prog 14 #[.string s, .int .i64 n] w fun e w' => e = .returned (.string (s.extract 0 (cutLen n.toNat s.data.toList))) ∧ Below w.heap.size w w' := by
  have hle := cut_le s n.toNat
  have hend := fun W => end_any s n W hs hn0 hn1
  have HE := Lib.hid hend
  clear hend
  generalize cutLen n.toNat s.data.toList = k at *
  go_enter Try.func14, Try.ntmps14
  go_wp2_with (first
    | (go_at_call 26; refine (HE.out _).mono ?_; rintro e w1 ⟨rfl, hb1⟩)
    | (go_at_call 25; refine (clone_any _ _ (by simp; omega)).mono ?_; rintro e w2 ⟨rfl, hb2⟩))
  go_ret
  exact ⟨rfl, hb1.trans (hb2.mono hb1.size)⟩

/-- The state of the look at a name behind n runes. -/
def nameF : Nat → List Int → Bool
  | n, [] => decide (0 < n)
  | n, r :: rs => if n = 32 then false else if isLet r || (decide (n ≠ 0) && isDig r) then nameF (n + 1) rs else false
theorem nameF_cons (n : Nat) (r : Int) (rs : List Int) : nameF n (r :: rs) = if n = 32 then false else if isLet r || (decide (n ≠ 0) && isDig r) then nameF (n + 1) rs else false := rfl
theorem nameF_pos : ∀ (rs : List Int) (n : Nat), 0 < n → n ≤ 32 → nameF n rs = (rs.all (fun x => isLet x || isDig x) && decide (n + rs.length ≤ 32))
  | [], n, h0, h => by simp [nameF, h0, h]
  | r :: rs, n, h0, h => by
    unfold nameF
    by_cases h32 : n = 32
    · subst h32
      simp
    · rw [if_neg h32]
      have hn : decide (n ≠ 0) = true := by simp; omega
      rw [hn, Bool.true_and]
      have ih := nameF_pos rs (n + 1) (by omega) (by omega)
      cases hb : (isLet r || isDig r)
      · simp [hb]
      · rw [if_pos rfl, ih, List.all_cons, hb, Bool.true_and, List.length_cons]
        have e : n + (rs.length + 1) = n + 1 + rs.length := by omega
        rw [e]
theorem nameF_zero (rs : List Int) : nameF 0 rs = nameL rs := by
  cases rs with
  | nil => rfl
  | cons r rs =>
    rw [nameF_cons, if_neg (by omega)]
    unfold nameL
    cases hb : isLet r
    · simp [hb]
    · rw [nameF_pos rs 1 (by omega) (by omega)]
      have e : (1 + rs.length ≤ 32) = (rs.length < 32) := propext ⟨fun h => by omega, fun h => by omega⟩
      simp [e, hb]

set_option maxHeartbeats 1000000 in
theorem isName_any (s : ByteArray) (w : World) (hs : s.size ≤ 1000000) :
    Calls Try.prog 20 #[.string s] w fun e w' => e = .returned (.bool (nameL (runes s.data.toList))) ∧ Below w.heap.size w w' := by
  rw [← nameF_zero]
  go_enter Try.func20, Try.ntmps20
  go_wp2
  go_loopw [3] (fun n wr => ∃ pos k : Nat, wr = w.iter s pos ∧ n = .int .i64 (k : Nat) ∧ k ≤ 32 ∧ nameF k (runes (s.data.toList.drop pos)) = nameF 0 (runes s.data.toList)) (fun _ wr => s.size - wr.iterPos w.heap.size)
  case atStart => exact ⟨0, 0, rfl, rfl, by omega, by simp⟩
  case round =>
    obtain ⟨pos, k, rfl, rfl, hk32, hk⟩ := hrel
    have hwd := width_pos s pos
    by_cases hp : pos < s.size
    · have hnx : ∀ ty, (Instr.next (.pointer (some ⟨w.heap.size, 0, none⟩)) true ty).run Try.prog (w.iter s pos) = _ := fun ty => run_next_any w s pos ty hp
      have hst := runes_at s pos hp
      rw [hst, nameF_cons] at hk
      by_cases h32 : k = 32
      · rw [if_pos h32] at hk
        have HK := Lib.hid hk
        have ht : ((k : Int) == 32) = true := by rw [beq_iff_eq]; omega
        clear hk hst h32
        go_wp2
        go_ret
        exact ⟨ret_bool HK.out, iter_below w s _⟩
      · rw [if_neg h32] at hk
        have HK := Lib.hid hk
        have ht : ((k : Int) == 32) = false := by rw [beq_eq_false_iff_ne]; omega
        have hk31 : k ≤ 31 := by omega
        clear hk hst h32
        by_cases hl : isLet ((Utf8.decode s pos).1 : Int) = true
        · go_wp2_with (go_at_call 30; refine (isLetter_any _ _).mono ?_; rintro e w1 ⟨rfl, rfl⟩)
          go_roundw
          case rel => exact ⟨pos + (Utf8.decode s pos).2, k + 1, rfl, by go_num, by omega, by have := HK.out; rw [hl] at this; simpa using this⟩
          case measure => simp only [World.iterPos_iter]; omega
        · have hl : isLet ((Utf8.decode s pos).1 : Int) = false := by simpa using hl
          by_cases h0 : k = 0
          · have h0t : ((k : Int) == 0) = true := by rw [beq_iff_eq]; omega
            have HK2 : Hid (false = nameF 0 (runes s.data.toList)) := by refine Lib.hid ?_; have := HK.out; rw [hl] at this; simpa [h0] using this
            clear HK h0
            go_wp2_with (go_at_call 30; refine (isLetter_any _ _).mono ?_; rintro e w1 ⟨rfl, rfl⟩)
            go_ret
            exact ⟨ret_bool HK2.out, iter_below w s _⟩
          · have h0t : ((k : Int) == 0) = false := by rw [beq_eq_false_iff_ne]; omega
            by_cases hd : isDig ((Utf8.decode s pos).1 : Int) = true
            · have HK2 : Hid (nameF (k + 1) (runes (s.data.toList.drop (pos + (Utf8.decode s pos).2))) = nameF 0 (runes s.data.toList)) := by refine Lib.hid ?_; have := HK.out; rw [hl, hd] at this; simpa [h0] using this
              clear HK h0
              go_wp2_with (first
                | (go_at_call 30; refine (isLetter_any _ _).mono ?_; rintro e w1 ⟨rfl, rfl⟩)
                | (go_at_call 31; refine (isDigit_any _ _).mono ?_; rintro e w1 ⟨rfl, rfl⟩))
              go_roundw
              case rel => exact ⟨pos + (Utf8.decode s pos).2, k + 1, rfl, by go_num, by omega, HK2.out⟩
              case measure => simp only [World.iterPos_iter]; omega
            · have hd : isDig ((Utf8.decode s pos).1 : Int) = false := by simpa using hd
              have HK2 : Hid (false = nameF 0 (runes s.data.toList)) := by refine Lib.hid ?_; have := HK.out; rw [hl, hd] at this; simpa using this
              clear HK h0
              go_wp2_with (first
                | (go_at_call 30; refine (isLetter_any _ _).mono ?_; rintro e w1 ⟨rfl, rfl⟩)
                | (go_at_call 31; refine (isDigit_any _ _).mono ?_; rintro e w1 ⟨rfl, rfl⟩))
              go_ret
              exact ⟨ret_bool HK2.out, iter_below w s _⟩
    · have hnx : ∀ ty, (Instr.next (.pointer (some ⟨w.heap.size, 0, none⟩)) true ty).run Try.prog (w.iter s pos) = _ := fun ty => run_next_end w s pos ty hp
      rw [runes_end s pos hp] at hk
      have HK := Lib.hid hk
      clear hk
      go_wp2
      go_ret
      exact ⟨ret_bool (by have := HK.out; rw [← this]; simp [nameF]), iter_below w s pos⟩

set_option maxHeartbeats 1000000 in
set_option maxRecDepth 100000 in
theorem fold_any (s : ByteArray) (w : World) (hs : s.size ≤ 1000000) :
    Calls Try.prog 10 #[.string s] w fun e w' => e = .returned (.string ⟨(foldL s.data.toList).toArray⟩) ∧ Below w.heap.size w w' := by
  have hrl := runes_le s
  go_enter Try.func10, Try.ntmps10
  go_wp2
  go_loopw [] (fun wr => ∃ (pos : Nat) (acc : List UInt8), Bld w.heap.size w.heap.size acc wr ∧ wr.heap[w.heap.size + 1]? = some (.stringIter s pos) ∧ Below w.heap.size w wr ∧ acc ++ text ((runes (s.data.toList.drop pos)).map foldR) = foldL s.data.toList ∧ acc.length + 4 * (runes (s.data.toList.drop pos)).length ≤ 4000000) (fun wr => s.size - wr.iterPos (w.heap.size + 1))
  case atStart =>
    refine ⟨0, [], (Lib.IsBuilderF.of (Lib.fresh_isBuilder 42 5 w)).alloc _, ?_, ((Below.refl _ w).alloc (Nat.le_refl _) _).alloc (by simp) _, by simp [foldL], by simp; omega⟩
    have := World.iter_heap (w.alloc (.cells #[.pointer none, .slice none 0 0] 42)) s 0
    simpa using this
  case round =>
    obtain ⟨pos, acc, hI, hit, hbw, hacc, hal⟩ := hrel
    have hsz : w.heap.size + 1 < wr.heap.size := (Array.getElem?_eq_some_iff.1 hit).1
    have hwd := width_pos s pos
    have hd1 := decode_le s pos
    have HA := Lib.hid hacc
    clear hacc hrl
    by_cases hp : pos < s.size
    · have hnx : ∀ ty, (Instr.next (.pointer (some ⟨w.heap.size + 1, 0, none⟩)) true ty).run Try.prog wr = _ := fun ty => Lib.run_next_any_at wr (w.heap.size + 1) s pos ty hit hp
      have hst := runes_at s pos hp
      rw [hst, List.length_cons] at hal
      have HS := Lib.hid hst
      clear hst
      have hI2 : Bld w.heap.size w.heap.size acc (wr.iterAt (w.heap.size + 1) s (pos + (Utf8.decode s pos).2)) := hI.iterAt hit (pos + (Utf8.decode s pos).2)
      have hit2 := Lib.iterAt_heap wr (w.heap.size + 1) s pos (pos + (Utf8.decode s pos).2) hit
      have hbw2 := Lib.below_iterAt hbw (k := w.heap.size + 1) (by omega) s (pos + (Utf8.decode s pos).2)
      have hsz2 : w.heap.size ≤ (wr.iterAt (w.heap.size + 1) s (pos + (Utf8.decode s pos).2)).heap.size := by rw [Lib.iterAt_size]; omega
      have hfr : -2147483648 ≤ foldR ((Utf8.decode s pos).1 : Int) ∧ foldR ((Utf8.decode s pos).1 : Int) ≤ 2147483647 := by unfold foldR; split <;> omega
      obtain ⟨fr, hfe⟩ : ∃ fr, foldR ((Utf8.decode s pos).1 : Int) = fr := ⟨_, rfl⟩
      have hfc : ∀ W, Calls Try.prog 22 #[.int .i32 ((Utf8.decode s pos).1 : Int)] W fun e w' => e = .returned (.int .i32 fr) ∧ W = w' := fun W => hfe ▸ foldRune_any ((Utf8.decode s pos).1 : Int) W
      rw [hfe] at hfr
      have HF := Lib.hid hfe
      have HC := Lib.hid hfc
      obtain ⟨hf0, hf1⟩ := hfr
      clear hfe hfc
      go_wp2_with (first
        | (go_at_call 22; refine (HC.out _).mono ?_; rintro e w1 ⟨rfl, rfl⟩)
        | (go_at_call 21; refine (writeRune_any w.heap.size w.heap.size acc fr hf0 hf1 _ hI2 (by omega) hsz2).mono ?_; rintro e W1 ⟨rfl, h1, b1, k1⟩))
      go_roundw
      case rel =>
        have h3 := k1.iter hit2 (by omega)
        have h4 := encode_length fr
        refine ⟨pos + (Utf8.decode s pos).2, acc ++ Lib.encodeRune fr, h1, h3, hbw2.trans b1, ?_, by simp; omega⟩
        rw [← HA.out, HS.out, List.map_cons, text_cons, HF.out, List.append_assoc]
      case measure =>
        have h3 := k1.iter hit2 (by omega)
        simp only [World.iterPos, h3, hit]
        omega
    · have hnx : ∀ ty, (Instr.next (.pointer (some ⟨w.heap.size + 1, 0, none⟩)) true ty).run Try.prog wr = _ := fun ty => Lib.run_next_end_at wr (w.heap.size + 1) s pos ty hit hp
      go_wp2_with (go_at_call 23; refine (string_any w.heap.size w.heap.size acc _ hI (by omega)).mono ?_; rintro e W1 ⟨rfl, _, b1, _⟩)
      go_ret
      have h5 := HA.out
      rw [runes_end s pos hp] at h5
      simp only [List.map_nil, text_nil, List.append_nil] at h5
      rw [← h5]
      exact ⟨rfl, hbw.trans b1⟩
end Go.Proofs.Ytcmikojlcckabaa
