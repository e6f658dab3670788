/- Unquote as the program has it; the document's own Quote and Unquote. -/
import Derived.Test.YtkimibppfniejaaDoorUnquote
import Derived.Test.YtkimibppfniejaaDoorQuoteMath
set_option linter.unusedVariables false
namespace Go.Proofs.YtkimibppfniejaaDoor
open Go Go.RowKit

theorem head_byte (s : ByteArray) (h : 0 < s.size) : s.data.toList.head? = some (s[0]'h) := by
  have h1 : s.data.toList[0]? = some (s[0]'h) := by
    rw [Array.getElem?_toList, Array.getElem?_eq_getElem (show 0 < s.data.size from h)]; rfl
  rw [← h1, List.head?_eq_getElem?]
theorem last_byte (s : ByteArray) (h : 0 < s.size) : s.data.toList.getLast? = some (s[s.size - 1]'(by omega)) := by
  rw [List.getLast?_eq_getElem?, size_list, Array.getElem?_toList, Array.getElem?_eq_getElem (show s.size - 1 < s.data.size from by have : s.data.size = s.size := rfl; omega)]
  rfl
theorem inner_list (s : ByteArray) (h : 2 ≤ s.size) : (s.extract 1 (s.size - 1)).data.toList = (s.data.toList.drop 1).dropLast := by
  rw [ByteArray.data_extract, Array.toList_extract, List.extract_eq_take_drop, List.dropLast_eq_take, List.length_drop, size_list]
theorem b34 {c : UInt8} (h : c = 34) : ((c.toNat : Int) != 34) = false := by subst h; rfl
theorem b34n {c : UInt8} (h : c ≠ 34) : ((c.toNat : Int) != 34) = true := by
  rw [bne_iff_ne]; intro e; apply h; apply UInt8.toNat_inj.1; show c.toNat = 34; omega
theorem b92 {c : UInt8} (h : c = 92) : ((c.toNat : Int) == 92) = true := by subst h; rfl
theorem b92n {c : UInt8} (h : c ≠ 92) : ((c.toNat : Int) == 92) = false := by
  rw [beq_eq_false_iff_ne]; intro e; apply h; apply UInt8.toNat_inj.1; show c.toNat = 92; omega
theorem b110 {c : UInt8} (h : c = 110) : ((c.toNat : Int) == 110) = true := by subst h; rfl
theorem b110n {c : UInt8} (h : c ≠ 110) : ((c.toNat : Int) == 110) = false := by
  rw [beq_eq_false_iff_ne]; intro e; apply h; apply UInt8.toNat_inj.1; show c.toNat = 110; omega

set_option maxHeartbeats 2000000 in
set_option maxRecDepth 100000 in
theorem unquote_any (s : ByteArray) (w : World) (hs : s.size ≤ 1000000) (hT : Tabs w) :
    Calls Tryd.prog 51 #[.string s] w fun e w' => e = .returned (unescV (unquoteL s.data.toList)) ∧ Below w.heap.size w w' := by
  have HT := Lib.hid hT
  clear hT
  by_cases h2 : s.size < 2
  · have hn : unquoteL s.data.toList = none := by unfold unquoteL; rw [size_list, if_neg (by omega)]
    rw [hn]
    go_enter Tryd.func51, Tryd.ntmps51
    go_wp2_with fail
    go_ret2
    exact ⟨rfl, Below.refl _ _⟩
  · have hp : 0 < s.size := by omega
    have hb0 := head_byte s hp
    have hb1 := last_byte s hp
    have g2 : ¬ ((s.size : Int) < 2) := by omega
    have hlen : 2 ≤ s.data.toList.length := by rw [size_list]; omega
    by_cases e0 : s[0]'hp = 34
    · by_cases e1 : s[s.size - 1]'(by omega) = 34
      · have f0 := b34 e0
        have f1 := b34 e1
        rw [e0] at hb0
        rw [e1] at hb1
        have hv : ∀ W, Lib.Utf8Tabs 1 2 W → Calls Tryd.prog 60 #[.string s] W fun e w' => e = .returned (.bool (Lib.validD s.data.toList)) ∧ Below W.heap.size W w' := fun W hW => Any.utf8_ValidString Tryd.lays196 s W (by omega) hW
        cases hval : Lib.validD s.data.toList
        · have hn : unquoteL s.data.toList = none := by unfold unquoteL; rw [hval, if_neg (by simp)]
          rw [hn]
          rw [hval] at hv
          have HV := Lib.hid hv
          clear hv hval hn hb0 hb1 e0 e1
          go_enter Tryd.func51, Tryd.ntmps51
          go_wp2_with fail
          refine (HV.out _ HT.out).mono ?_
          rintro e w1 ⟨rfl, b1⟩
          go_wp2_with fail
          go_ret2
          exact ⟨rfl, b1⟩
        · have hn : unquoteL s.data.toList = unescO false [] (runes (s.extract 1 (s.size - 1)).data.toList) := by
            unfold unquoteL
            rw [if_pos ⟨hlen, hb0, hb1, hval⟩, inner_list s (by omega)]
            unfold unescO
            congr 1
          rw [hn]
          rw [hval] at hv
          have hin : (s.extract 1 (s.size - 1)).size ≤ 1000000 := by rw [← size_list, inner_list s (by omega), List.length_dropLast, List.length_drop, size_list]; omega
          have hu := fun W => unescape_any (s.extract 1 (s.size - 1)) W hin
          generalize unescO false [] (runes (s.extract 1 (s.size - 1)).data.toList) = OUT at *
          have HV := Lib.hid hv
          have HU := Lib.hid hu
          clear hv hu hval hn hb0 hb1 e0 e1 hin
          go_enter Tryd.func51, Tryd.ntmps51
          go_wp2_with fail
          refine (HV.out _ HT.out).mono ?_
          rintro e w1 ⟨rfl, b1⟩
          go_wp2_with fail
          refine (HU.out _).mono ?_
          cases OUT with
          | none =>
            rintro e w2 ⟨rfl, b2⟩
            unfold unescV
            go_wp2_with fail
            go_ret2
            exact ⟨rfl, bt b1 b2⟩
          | some l =>
            rintro e w2 ⟨rfl, b2⟩
            unfold unescV
            go_wp2_with fail
            go_ret2
            exact ⟨rfl, bt b1 b2⟩
      · have f0 := b34 e0
        have f1 := b34n e1
        have hn : unquoteL s.data.toList = none := by
          unfold unquoteL
          rw [hb1, if_neg]
          rintro ⟨_, _, h, _⟩
          exact e1 (Option.some.inj h)
        rw [hn]
        clear hn hb0 hb1 e0 e1
        go_enter Tryd.func51, Tryd.ntmps51
        go_wp2_with fail
        go_ret2
        exact ⟨rfl, Below.refl _ _⟩
    · have f0 := b34n e0
      have hn : unquoteL s.data.toList = none := by
        unfold unquoteL
        rw [hb0, if_neg]
        rintro ⟨_, h, _, _⟩
        exact e0 (Option.some.inj h)
      rw [hn]
      clear hn hb0 hb1 e0
      go_enter Tryd.func51, Tryd.ntmps51
      go_wp2_with fail
      go_ret2
      exact ⟨rfl, Below.refl _ _⟩
end Go.Proofs.YtkimibppfniejaaDoor
