/- Rows of bytes that a law puts together, and what Take says of them (as XValRow, without the examples of layer 2). -/
import Derived.Test.YtgacphpkgaobkaaDoorValTold
import Derived.Test.YtgacphpkgaobkaaDoorValEq
import Derived.Test.YtgacphpkgaobkaaDoorValTaken
set_option linter.unusedVariables false
namespace Go.Proofs.YtgacphpkgaobkaaDoor
open Go Go.RowKit

theorem URow.cell {w : World} {B g n cap : Nat} {bs : List UInt8} (h : URow w B (.slice (some ⟨g, 0, none⟩) n cap) n bs) : ∀ j u, (bs.map u8v)[j]? = some u → w.cell? ((⟨g, 0, none⟩ : Addr).add j) = some u := World.ownsRow.cells h rfl
theorem URow.cap {w : World} {B g n cap : Nat} {bs : List UInt8} (h : URow w B (.slice (some ⟨g, 0, none⟩) n cap) n bs) : n ≤ cap := by
  rcases h.2 with ⟨hv, h0⟩ | ⟨g', cap', cur, hv, h2, h3, h4, _⟩
  · cases hv
  · injection hv with e1 e2 e3
    omega
theorem URow.rd {w : World} {B : Nat} {v : Value} {bs : List UInt8} (h : URow w B v bs.length bs) : ∃ A c, v = .slice A bs.length c ∧ RdB w A bs ∧ bs.length ≤ c := by
  rcases h.2 with ⟨hv, h0⟩ | ⟨g, cap, cur, hv, h2, h3, h4, _⟩
  · refine ⟨none, 0, by rw [hv, h0], fun k hk => absurd hk (by omega), by omega⟩
  · subst hv
    refine ⟨_, cap, rfl, fun k hk => ⟨⟨g, 0, none⟩, rfl, ?_, ?_⟩, h4⟩
    · show g < w.heap.size
      rcases Nat.lt_or_ge g w.heap.size with h5 | h5
      · exact h5
      · rw [Array.getElem?_eq_none h5] at h3
        cases h3
    · exact h.cell k _ (by rw [List.getElem?_map, List.getElem?_eq_getElem hk]; simp [List.getD_eq_getElem?_getD, List.getElem?_eq_getElem hk])
theorem take_row {w : World} {B : Nat} {v : Value} {bs : List UInt8} (h : URow w B v bs.length bs) (hl : bs.length ≤ 1000000) :
    Calls Tryd.prog 64 #[v] w fun e w' => e = .returned (takeV bs) ∧ Below w.heap.size w w' := by
  obtain ⟨A, c, rfl, hr, hc⟩ := h.rd
  exact valTake_any A c bs w hr hc hl
set_option maxRecDepth 100000 in
theorem append_nilB {w : World} {B n : Nat} {v : Value} {bs : List UInt8} (h : URow w B v n bs) (c : Nat) :
    (Builtin.append_ #[43, 43] 43 #[v, .slice none 0 c]).run Tryd.prog w = .ok v w := by
  obtain ⟨i0, hi, hz0, hz1, hz2⟩ := info_parts byte_infoV
  rcases h.2 with ⟨rfl, rfl⟩ | ⟨g, cap, cur, rfl, _, _, hnc, _⟩
  · simp [Builtin.append_, run_underlying Tryd.underlying43, sizeOf, typeInfo, hi, Builtin.lenOf, Builtin.firstCells]
  · simp [Builtin.append_, run_underlying Tryd.underlying43, sizeOf, typeInfo, hi, Builtin.lenOf, Builtin.firstCells, hnc, storeCells]
theorem RdB.news {w : World} {x : Addr} {bs : List UInt8} (h : RdB w (some x) bs) : ∀ j u, (bs.map u8v)[j]? = some u → w.cell? (x.add j) = some u := by
  intro j u hj
  rw [List.getElem?_map] at hj
  obtain ⟨b, hb, rfl⟩ := Option.map_eq_some_iff.1 hj
  have hlt := (List.getElem?_eq_some_iff.1 hb).1
  obtain ⟨ad, e, _, hc⟩ := h j hlt
  obtain rfl : x = ad := by injection e
  rw [hc]
  simp [List.getD_eq_getElem?_getD, hb]
theorem RdB.none_nil {w : World} {bs : List UInt8} (h : RdB w none bs) : bs = [] := by
  cases bs with
  | nil => rfl
  | cons b r =>
    obtain ⟨ad, e, _⟩ := h 0 (by simp)
    cases e
theorem lit0 (w : World) : URow (w.alloc (.cells #[] 5)) w.heap.size (.slice (some ⟨w.heap.size, 0, none⟩) 0 0) 0 [] :=
  World.ownsRow_lit (base := w.heap.size) (e := 5) (size := 1) w #[] 0 (Nat.le_refl _) (by decide) rfl
theorem takeV_form (bs : List UInt8) : ∃ k n s m e, takeV bs = .tuple #[valV k n s, .int .i64 m, .int .i64 e] := by
  cases bs with
  | nil => exact ⟨_, _, _, _, _, rfl⟩
  | cons c r =>
    by_cases h1 : c = 1
    · by_cases h8 : r.length < 8
      · exact ⟨0, 0, ⟨#[]⟩, 0, 20, by simp [takeV, h1, h8, noV]⟩
      · exact ⟨1, (valN 0 (r.take 8) : Int) - 9223372036854775808, ⟨#[]⟩, 9, 0, by simp [takeV, h1, h8]⟩
    · by_cases h2 : c = 2
      · cases h : takeS [] 1 r with
        | ok s n => exact ⟨2, 0, ⟨s.toArray⟩, n, 0, by simp [takeV, h2, h, tkV]⟩
        | no e => exact ⟨0, 0, ⟨#[]⟩, 0, e, by simp [takeV, h2, h, tkV, noV]⟩
      · exact ⟨0, 0, ⟨#[]⟩, 0, 22, by simp [takeV, h1, h2, noV]⟩
theorem int_empty {k : Int} {s : ByteArray} (h : isIntV k s = true) : k = 1 ∧ s = ⟨#[]⟩ := by
  unfold isIntV at h
  simp only [Bool.and_eq_true, beq_iff_eq, List.isEmpty_iff] at h
  refine ⟨h.1, ?_⟩
  have h2 := h.2
  rw [ByteArray.toList_eq] at h2
  exact ByteArray.ext (Array.toList_inj.1 h2)
theorem takeV_one (r : List UInt8) (h : ¬ r.length < 8) : takeV (1 :: r) = .tuple #[valV 1 ((valN 0 (r.take 8) : Int) - 9223372036854775808) ⟨#[]⟩, .int .i64 9, .int .i64 0] := by simp [takeV, h]
theorem takeV_two (r : List UInt8) : takeV (2 :: r) = tkV (takeS [] 1 r) := by simp [takeV]
/-- A value's bytes are taken as the value, whatever stands behind them. -/
theorem takeV_bytes (k n : Int) (s : ByteArray) (z : List UInt8) (h : rightV k n s = true) (h0 : -9223372036854775808 ≤ n) (h1 : n ≤ 9223372036854775807) :
    takeV (bytesR k n s ++ z) = .tuple #[valV k n s, .int .i64 ((bytesR k n s).length : Int), .int .i64 0] := by
  have hb : bytesR k n s = bytesV k n s := by unfold bytesR; rw [h]; rfl
  rw [hb]
  rw [rightV_eq] at h
  cases hi : isIntV k s with
  | true =>
    obtain ⟨rfl, rfl⟩ := int_empty hi
    have e : bytesV 1 n ⟨#[]⟩ = 1 :: beN 8 (flip n) := rfl
    have e2 : (beN 8 (flip n) ++ z).take 8 = beN 8 (flip n) := by
      have := List.take_left (l₁ := beN 8 (flip n)) (l₂ := z)
      rwa [beN_length] at this
    have el : ¬ (beN 8 (flip n) ++ z).length < 8 := by rw [List.length_append, beN_length]; omega
    have ev : ((flip n : Nat) : Int) - 9223372036854775808 = n := by unfold flip; omega
    rw [e, List.cons_append]
    rw [takeV_one _ el, e2, numB_val n h1, ev, List.length_cons, beN_length]
    rfl
  | false =>
    rw [hi, Bool.false_or] at h
    have hk := text_kind h
    have hs := isTextV_size h
    have hn : n = 0 := by unfold isTextV at h; simp at h; exact h.1.2
    subst hk hn
    have e : bytesV 2 0 s = 2 :: (esc0 s.data.toList ++ [0, 0]) := rfl
    have hsl : s.data.toList.length ≤ 200 := by rw [Array.length_toList]; exact hs
    have et := takeS_esc s.data.toList [] 1 z (by simpa using hsl)
    rw [e]
    have e3 : (2 :: (esc0 s.data.toList ++ [0, 0])) ++ z = 2 :: (esc0 s.data.toList ++ 0 :: 0 :: z) := by simp
    rw [e3]
    rw [takeV_two, et]
    show Value.tuple #[valV 2 0 ⟨([] ++ s.data.toList).toArray⟩, .int .i64 ((1 + (esc0 s.data.toList).length + 2 : Nat) : Int), .int .i64 0] = _
    have e4 : (2 :: (esc0 s.data.toList ++ [0, 0])).length = 1 + (esc0 s.data.toList).length + 2 := by simp only [List.length_cons, List.length_append, List.length_nil]; omega
    rw [e4, List.nil_append]
theorem sameV_self (k n : Int) (s : ByteArray) : sameV k n s k n s = true := by
  rw [sameV_iff]
  simp
theorem bytesR_len (k n : Int) (s : ByteArray) (hs : s.size ≤ 1000) : (bytesR k n s).length ≤ 3000 := by
  unfold bytesR
  split
  · unfold bytesV
    split
    · rw [numB_length]; omega
    · have := (textB_length s.data.toList).2
      have h2 : s.data.toList.length = s.size := Array.length_toList
      omega
  · simp
theorem bytesR_pos (k n : Int) (s : ByteArray) (h : rightV k n s = true) : 0 < (bytesR k n s).length := by
  unfold bytesR
  rw [h]
  simp only [if_true]
  unfold bytesV
  split
  · rw [numB_length]; omega
  · have := (textB_length s.data.toList).1
    omega
/-- A variable of the law's own that holds a value, and may be written. -/
structure BoxF (W : World) (N : Nat) (k n : Int) (s : ByteArray) : Prop extends Box W N k n s where
  f0 : W.frozen? { block := N, off := 0 } = false
  f1 : W.frozen? { block := N, off := 1 } = false
  f2 : W.frozen? { block := N, off := 2 } = false
theorem BoxF.new (w : World) (k n : Int) (s : ByteArray) : BoxF (w.alloc (.cells #[.int .i64 k, .int .i64 n, .string s] 36)) w.heap.size k n s := by
  refine ⟨Box.new w k n s, ?_, ?_, ?_⟩ <;> (unfold World.frozen?; rw [heap_alloc_new]; rfl)
theorem BoxF.block {W W' : World} {N : Nat} {k n : Int} {s : ByteArray} (h : BoxF W N k n s) (e : W'.heap[N]? = W.heap[N]?) : BoxF W' N k n s :=
  ⟨h.toBox.block e, (World.frozen?_of_block e).trans h.f0, (World.frozen?_of_block e).trans h.f1, (World.frozen?_of_block e).trans h.f2⟩
theorem BoxF.below {W W' : World} {N B : Nat} {k n : Int} {s : ByteArray} (h : BoxF W N k n s) (hN : N < B) (hb : Below B W W') : BoxF W' N k n s := h.block (hb.block N hN)
abbrev set3 (W : World) (N : Nat) (k n : Int) (s : ByteArray) : World := ((W.setCell { block := N, off := 0 } (.int .i64 k)).setCell { block := N, off := 1 } (.int .i64 n)).setCell { block := N, off := 2 } (.string s)
theorem BoxF.set {W : World} {N : Nat} {k n : Int} {s : ByteArray} (h : BoxF W N k n s) (k' n' : Int) (s' : ByteArray) : Box (set3 W N k' n' s') N k' n' s' := by
  have h0 := World.cell?_setCell_same W { block := N, off := 0 } (.int .i64 k') h.c0
  have h1 : (W.setCell { block := N, off := 0 } (.int .i64 k')).cell? { block := N, off := 1 } = some (.int .i64 n) := by
    rw [World.cell?_setCell_other _ _ _ _ (by simp)]; exact h.c1
  have h1' := World.cell?_setCell_same _ { block := N, off := 1 } (.int .i64 n') h1
  have h2 : ((W.setCell { block := N, off := 0 } (.int .i64 k')).setCell { block := N, off := 1 } (.int .i64 n')).cell? { block := N, off := 2 } = some (.string s) := by
    rw [World.cell?_setCell_other _ _ _ _ (by simp), World.cell?_setCell_other _ _ _ _ (by simp)]; exact h.c2
  have h2' := World.cell?_setCell_same _ { block := N, off := 2 } (.string s') h2
  refine ⟨?_, ?_, h2'⟩
  · show (set3 W N k' n' s').cell? _ = _
    unfold set3
    rw [World.cell?_setCell_other _ _ _ _ (by simp), World.cell?_setCell_other _ _ _ _ (by simp)]; exact h0
  · show (set3 W N k' n' s').cell? _ = _
    unfold set3
    rw [World.cell?_setCell_other _ _ _ _ (by simp)]; exact h1'
theorem Box.set_other {W : World} {M N : Nat} {k n : Int} {s : ByteArray} (h : Box W M k n s) (hne : M ≠ N) (k' n' : Int) (s' : ByteArray) : Box (set3 W N k' n' s') M k n s := by
  unfold set3
  refine ⟨?_, ?_, ?_⟩
  · rw [World.cell?_setCell_other _ _ _ _ (by first | exact fun h => hne (congrArg Addr.block h) | exact fun h => hne (congrArg Addr.block h).symm), World.cell?_setCell_other _ _ _ _ (by first | exact fun h => hne (congrArg Addr.block h) | exact fun h => hne (congrArg Addr.block h).symm), World.cell?_setCell_other _ _ _ _ (by first | exact fun h => hne (congrArg Addr.block h) | exact fun h => hne (congrArg Addr.block h).symm)]; exact h.c0
  · rw [World.cell?_setCell_other _ _ _ _ (by first | exact fun h => hne (congrArg Addr.block h) | exact fun h => hne (congrArg Addr.block h).symm), World.cell?_setCell_other _ _ _ _ (by first | exact fun h => hne (congrArg Addr.block h) | exact fun h => hne (congrArg Addr.block h).symm), World.cell?_setCell_other _ _ _ _ (by first | exact fun h => hne (congrArg Addr.block h) | exact fun h => hne (congrArg Addr.block h).symm)]; exact h.c1
  · rw [World.cell?_setCell_other _ _ _ _ (by first | exact fun h => hne (congrArg Addr.block h) | exact fun h => hne (congrArg Addr.block h).symm), World.cell?_setCell_other _ _ _ _ (by first | exact fun h => hne (congrArg Addr.block h) | exact fun h => hne (congrArg Addr.block h).symm), World.cell?_setCell_other _ _ _ _ (by first | exact fun h => hne (congrArg Addr.block h) | exact fun h => hne (congrArg Addr.block h).symm)]; exact h.c2
theorem below_set3 {B N : Nat} {a W : World} (h : Below B a W) (hN : B ≤ N) (k n : Int) (s : ByteArray) : Below B a (set3 W N k n s) :=
  ((h.setCell (p := { block := N, off := 0 }) hN _).setCell (p := { block := N, off := 1 }) hN _).setCell (p := { block := N, off := 2 }) hN _
end Go.Proofs.YtgacphpkgaobkaaDoor
