/- Which values are right, of any number of them: the code's own. -/
import Derived.Test.YtgacphpkgaobkaaDoorValThing
import Derived.Test.YtgacphpkgaobkaaDoorOpenW
set_option linter.unusedVariables false
namespace Go.Proofs.YtgacphpkgaobkaaDoor
open Go Go.RowKit
theorem add_formV (a : Addr) (j : Nat) : a.add (j + 1) = { block := a.block, off := a.off + (j + 1) } := by unfold Addr.add; rw [if_neg (by omega)]
def notRight (z : Val3) : Bool := !rightV z.1 z.2.1 z.2.2
set_option maxHeartbeats 1000000 in
set_option maxRecDepth 100000 in
theorem closure_any (k n : Int) (s : ByteArray) (w : World) :
    Calls Tryd.prog 60 #[valV k n s] w fun e w' => e = .returned (.bool (!rightV k n s)) ∧ Below w.heap.size w w' := by
  have hI := fun W => isInt_any k n s W
  have hT := fun W => isText_any k n s W
  have hb0 : Below w.heap.size w (w.alloc (.cells #[.int .i64 k, .int .i64 n, .string s] 36)) := (Below.refl _ _).alloc (Nat.le_refl _) _
  have hbx := Box.new w k n s
  have hsz0 : (w.alloc (.cells #[.int .i64 k, .int .i64 n, .string s] 36)).heap.size = w.heap.size + 1 := by simp
  rw [rightV_eq]
  unfold valV at hI hT ⊢
  cases h1 : isIntV k s with
  | true =>
    rw [h1] at hI
    have HI := Lib.hid hI
    clear hI hT h1
    go_enter Tryd.func60, Tryd.ntmps60
    go_wp2_with fail
    refine (HI.out _).mono ?_
    rintro e w1 ⟨rfl, b1⟩
    go_wp2_with fail
    go_ret
    exact ⟨rfl, btV hb0 b1⟩
  | false =>
    rw [h1] at hI
    have HI := Lib.hid hI
    have HT := Lib.hid hT
    have HB := Lib.hid hbx
    clear hI hT hbx h1
    go_enter Tryd.func60, Tryd.ntmps60
    go_wp2_with fail
    refine (HI.out _).mono ?_
    rintro e w1 ⟨rfl, b1⟩
    obtain ⟨c0, c1, c2⟩ := HB.out.below (by rw [hsz0]; omega) b1
    go_wp2_with fail
    refine (HT.out _).mono ?_
    rintro e w2 ⟨rfl, b2⟩
    go_wp2_with fail
    go_ret
    exact ⟨by simp, btV (btV hb0 b1) b2⟩

set_option maxHeartbeats 1000000 in
set_option maxRecDepth 100000 in
theorem indexFunc_any (A : Option Addr) (c : Nat) (zs : List Val3) (w : World) (h : RdV w A zs) (hl : zs.length ≤ 1000000) :
    Calls Tryd.prog 74 #[.slice A zs.length c, .func (.func 60) #[] #[]] w fun e w' => (∃ r : Int, e = .returned (.int .i64 r) ∧ decide (0 ≤ r) = zs.any notRight) ∧ Below w.heap.size w w' := by
  have HRd := Lib.hid h
  clear h
  go_enter Tryd.func74, Tryd.ntmps74
  go_wp2_with fail
  go_loopw [8] (fun i wr => ∃ j : Nat, j ≤ zs.length ∧ i = .int .i64 (j : Nat) ∧ Below w.heap.size w wr ∧ (zs.take j).any notRight = false) (fun i _ => zs.length - (intOf i).toNat)
  case atStart => exact ⟨0, Nat.zero_le _, rfl, Below.refl _ _, rfl⟩
  case round =>
    obtain ⟨j, hj, rfl, hbw, hacc⟩ := hrel
    have HA := Lib.hid hacc
    clear hacc
    by_cases hlt : j < zs.length
    · obtain ⟨ad, rfl, hblk, g0, g1, g2⟩ := (HRd.out.below (Nat.le_refl _) hbw) j hlt
      have htk : zs.take (j + 1) = zs.take j ++ [zs.getD j Val3.no] := by
        rw [List.take_succ_eq_append_getElem hlt, List.getD_eq_getElem?_getD, List.getElem?_eq_getElem hlt]
        rfl
      have hmem : zs.getD j Val3.no ∈ zs := by rw [List.getD_eq_getElem?_getD, List.getElem?_eq_getElem hlt]; exact List.getElem_mem hlt
      obtain ⟨⟨k, n, s⟩, hz⟩ : ∃ z, zs.getD j Val3.no = z := ⟨_, rfl⟩
      rw [hz] at g0 g1 g2 htk hmem
      have hT1 : Hid (zs.take (j + 1) = zs.take j ++ [(k, n, s)]) := Lib.hid htk
      have hM : Hid ((k, n, s) ∈ zs) := Lib.hid hmem
      clear htk hmem hz
      have hcl := fun W => closure_any k n s W
      unfold valV at hcl
      rw [← Go.Deep.add_add, add_formV] at g1 g2
      cases hr : rightV k n s with
      | true =>
        rw [hr] at hcl
        have HC := Lib.hid hcl
        have HN : Hid (notRight (k, n, s) = false) := Lib.hid (by unfold notRight; show (!rightV k n s) = false; rw [hr]; rfl)
        clear hcl hr
        go_wp2_with fail
        refine (HC.out _).mono ?_
        rintro e w1 ⟨rfl, b1⟩
        go_wp2_with fail
        go_roundw
        case rel => exact ⟨j + 1, by omega, by go_num, btV hbw b1, by rw [hT1.out, List.any_append, HA.out, List.any_cons, HN.out]; rfl⟩
        case measure => simp [intOf]; omega
      | false =>
        rw [hr] at hcl
        have HC := Lib.hid hcl
        have HN : Hid (notRight (k, n, s) = true) := Lib.hid (by unfold notRight; show (!rightV k n s) = true; rw [hr]; rfl)
        clear hcl hr
        go_wp2_with fail
        refine (HC.out _).mono ?_
        rintro e w1 ⟨rfl, b1⟩
        go_wp2_with fail
        go_ret
        exact ⟨⟨_, rfl, by rw [List.any_eq_true.2 ⟨_, hM.out, HN.out⟩]; simp⟩, btV hbw b1⟩
    · obtain rfl : j = zs.length := by omega
      go_wp2_with fail
      go_ret
      exact ⟨⟨_, rfl, by have := HA.out; rw [List.take_of_length_le (Nat.le_refl _)] at this; rw [this]; rfl⟩, hbw⟩

set_option maxHeartbeats 1000000 in
set_option maxRecDepth 100000 in
theorem containsFunc_any (A : Option Addr) (c : Nat) (zs : List Val3) (w : World) (h : RdV w A zs) (hl : zs.length ≤ 1000000) :
    Calls Tryd.prog 59 #[.slice A zs.length c, .func (.func 60) #[] #[]] w fun e w' => e = .returned (.bool (zs.any notRight)) ∧ Below w.heap.size w w' := by
  have HI := Lib.hid (indexFunc_any A c zs w h hl)
  clear h
  go_enter Tryd.func59, Tryd.ntmps59
  go_wp2_with fail
  refine HI.out.mono ?_
  rintro e w1 ⟨⟨r, rfl, hr⟩, b1⟩
  go_wp2_with fail
  go_ret
  exact ⟨by rw [← hr]; rfl, b1⟩
set_option maxHeartbeats 1000000 in
set_option maxRecDepth 100000 in
theorem valRight_any (A : Option Addr) (c : Nat) (zs : List Val3) (w : World) (h : RdV w A zs) (hl : zs.length ≤ 1000000) :
    Calls Tryd.prog 37 #[.slice A zs.length c] w fun e w' => e = .returned (.bool (!zs.any notRight)) ∧ Below w.heap.size w w' := by
  have HI := Lib.hid (containsFunc_any A c zs w h hl)
  clear h
  go_enter Tryd.func37, Tryd.ntmps37
  go_wp2_with fail
  refine HI.out.mono ?_
  rintro e w1 ⟨rfl, b1⟩
  go_wp2_with fail
  go_ret
  exact ⟨rfl, b1⟩
theorem valRight_one (k n : Int) (s : ByteArray) (N : Nat) (w : World) (hb : Box w N k n s) (hN : N < w.heap.size) :
    Calls Tryd.prog 37 #[.slice (some ⟨N, 0, none⟩) 1 1] w fun e w' => e = .returned (.bool (rightV k n s)) ∧ Below w.heap.size w w' := by
  have h := valRight_any (some ⟨N, 0, none⟩) 1 [(k, n, s)] w (fun j hj => by
    have h0 : j = 0 := by simpa using hj
    subst h0
    exact ⟨⟨N, 0, none⟩, rfl, hN, hb.c0, hb.c1, hb.c2⟩) (by simp)
  refine h.mono ?_
  rintro e w1 ⟨rfl, b1⟩
  exact ⟨by simp [notRight], b1⟩
end Go.Proofs.YtgacphpkgaobkaaDoor
