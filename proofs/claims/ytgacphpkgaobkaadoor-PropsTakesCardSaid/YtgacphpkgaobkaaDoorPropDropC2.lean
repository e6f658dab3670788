/- What is dropped: the code's own Drop. -/
import Derived.Test.YtgacphpkgaobkaaDoorPropDropC
set_option linter.unusedVariables false
namespace Go.Proofs.YtgacphpkgaobkaaDoor
open Go Go.RowKit

theorem str_swap (a b : ByteArray) : (a.toList == b.toList) = (b.toList == a.toList) := by
  by_cases h : a = b
  · rw [h]
  · rw [str_diff h, str_diff (fun e => h e.symm)]
set_option maxHeartbeats 1000000 in
set_option maxRecDepth 100000 in
theorem indexS_any (A : Option Addr) (c : Nat) (ss : List ByteArray) (key : ByteArray) (w : World) (h : RdS w A ss) (hl : ss.length ≤ 1000000) :
    Calls Tryd.prog 63 #[.slice A ss.length c, .string key] w fun e w' => (∃ r : Int, e = .returned (.int .i64 r) ∧ decide (0 ≤ r) = ss.any (fun y => y.toList == key.toList)) ∧ w = w' := by
  have HRd := Lib.hid h
  clear h
  go_enter Tryd.func63, Tryd.ntmps63
  go_wp2_with fail
  go_loop [8] (fun i => ∃ k : Nat, k ≤ ss.length ∧ i = .int .i64 (k : Nat) ∧ (ss.drop k).any (fun y => y.toList == key.toList) = ss.any (fun y => y.toList == key.toList)) (fun i => ss.length - (intOf i).toNat)
  case atStart => exact ⟨0, Nat.zero_le _, rfl, rfl⟩
  case round =>
    obtain ⟨k, hk, rfl, hacc⟩ := hrel
    by_cases hlt : k < ss.length
    · obtain ⟨ad, rfl, hcell⟩ := HRd.out.at1 hlt
      have hd : ss.drop k = ss.getD k ByteArray.empty :: ss.drop (k + 1) := by
        rw [List.drop_eq_getElem_cons hlt]; simp [List.getD_eq_getElem?_getD, List.getElem?_eq_getElem hlt]
      rw [hd, List.any_cons] at hacc
      obtain ⟨y, hy⟩ : ∃ y, ss.getD k ByteArray.empty = y := ⟨_, rfl⟩
      rw [hy] at hcell hacc
      rw [str_swap] at hacc
      obtain ⟨b, hb⟩ : ∃ b, (key.toList == y.toList) = b := ⟨_, rfl⟩
      rw [hb] at hacc
      have HA := Lib.hid hacc
      clear hacc hy hd
      cases b
      · have hout : (ss.drop (k + 1)).any (fun y => y.toList == key.toList) = ss.any (fun y => y.toList == key.toList) := by rw [← HA.out]; rfl
        have HO := Lib.hid hout
        clear hout
        go_wp2_with fail
        go_round
        case rel => exact ⟨k + 1, by omega, by go_num, HO.out⟩
        case measure => simp [intOf]; omega
      · have hout : ss.any (fun y => y.toList == key.toList) = true := by rw [← HA.out]; rfl
        have HO := Lib.hid hout
        clear hout
        go_wp2_with fail
        go_ret
        exact ⟨⟨_, rfl, by rw [HO.out]; simp⟩, rfl⟩
    · obtain rfl : k = ss.length := by omega
      have hout : ss.any (fun y => y.toList == key.toList) = false := by rw [← hacc, List.drop_eq_nil_of_le (Nat.le_refl _)]; rfl
      have HO := Lib.hid hout
      clear hout hacc
      go_wp2_with fail
      go_ret
      exact ⟨⟨_, rfl, by rw [HO.out]; rfl⟩, rfl⟩
set_option maxRecDepth 100000 in
theorem containsS_any (A : Option Addr) (c : Nat) (ss : List ByteArray) (key : ByteArray) (w : World) (h : RdS w A ss) (hl : ss.length ≤ 1000000) :
    Calls Tryd.prog 42 #[.slice A ss.length c, .string key] w fun e w' => e = .returned (.bool (ss.any (fun y => y.toList == key.toList))) ∧ w = w' := by
  have HI := Lib.hid (indexS_any A c ss key w h hl)
  clear h
  go_enter Tryd.func42, Tryd.ntmps42
  go_wp2_with fail
  refine HI.out.mono ?_
  rintro e w1 ⟨⟨r, rfl, hr⟩, rfl⟩
  go_wp2_with fail
  go_ret
  exact ⟨by rw [← hr]; rfl, rfl⟩

set_option maxHeartbeats 1000000 in
set_option maxRecDepth 100000 in
theorem drop1_any (N : Nat) (K : Option Addr) (d : Nat) (keys : List ByteArray) (w : World) (hN : w.cell? { block := N, off := 0 } = some (.slice K keys.length d)) (hk : RdS w K keys) (hl : keys.length ≤ 1000000) :
    AskP 41 (.pointer (some ⟨N, 0, none⟩)) (goneK keys) w := by
  intro W a k n s hW
  have hNlt := World.block_lt_of_cell? w _ hN
  have hb0 : Below W.heap.size W (W.alloc (.cells #[.string a, .int .i64 k, .int .i64 n, .string s] 41)) := (Below.refl _ _).alloc (Nat.le_refl _) _
  have hN1 := (World.cell?_of_block (hb0.block N (Nat.lt_of_lt_of_le hNlt hW.size))).trans ((World.cell?_of_block (hW.block N hNlt)).trans hN)
  obtain ⟨c0, c1, c2, c3⟩ := BoxP.new W a k n s
  have CC := Lib.hid (containsS_any K d keys a _ ((hk.below (Nat.le_refl _) hW).below (Nat.le_refl _) hb0) hl)
  clear hN hk
  go_enter Tryd.func41, Tryd.ntmps41
  go_wp2_with fail
  refine CC.out.mono ?_
  rintro e w1 ⟨rfl, rfl⟩
  go_wp2_with fail
  go_ret
  exact ⟨rfl, hb0⟩

set_option maxHeartbeats 1000000 in
set_option maxRecDepth 100000 in
theorem propsDrop_any (A K : Option Addr) (c d : Nat) (zs : List Prop4) (keys : List ByteArray) (w : World) (h : RdP w A zs) (hA : A = none → c = 0) (g : RdS w K keys) (hc : zs.length ≤ c) (hl : zs.length ≤ 1000000) (hl2 : keys.length ≤ 1000000) (hz : ∀ z ∈ zs, z.1.size ≤ 1000000 ∧ z.2.2.2.size ≤ 1000000) :
    Calls Tryd.prog 17 #[.slice A zs.length c, .slice K keys.length d] w (ListPost w (dropP zs keys)) := by
  have hb0 : Below w.heap.size w (w.alloc (.cells #[.slice K keys.length d] 23)) := (Below.refl _ _).alloc (Nat.le_refl _) _
  have hs0 : (w.alloc (.cells #[.slice K keys.length d] 23)).heap.size = w.heap.size + 1 := by simp
  have hN : (w.alloc (.cells #[.slice K keys.length d] 23)).cell? { block := w.heap.size, off := 0 } = some (.slice K keys.length d) := by rw [World.cell?_alloc_mark]; rfl
  have CC := Lib.hid (copies_any A c zs _ (h.below (Nat.le_refl _) hb0) hA hc hl hz)
  have HAsk := Lib.hid (drop1_any w.heap.size K d keys _ hN (g.below (Nat.le_refl _) hb0) hl2)
  have HN := Lib.hid hN
  clear h hA g hz hN
  go_enter Tryd.func17, Tryd.ntmps17
  go_wp2_with fail
  refine CC.out.mono ?_
  rintro e w1 ⟨v, rfl, hrow, b1⟩
  have eg : ∀ args w, (callFunc 41 args).run Tryd.prog w = .ok (.enter 41 args) w := enters_of Tryd.func41 (by kernel_rfl) rfl
  have CD := Lib.hid (deleteP_any v zs _ _ _ _ _ w1 hrow b1.size hl HAsk.out (Nat.le_refl _) b1 eg)
  clear hrow eg
  go_wp2_with fail
  refine CD.out.mono ?_
  rintro e w2 ⟨v2, rfl, hrow2, b2⟩
  go_wp2_with fail
  go_ret
  exact ⟨_, rfl, hrow2.base (by omega), hb0.trans ((b1.trans b2).mono (by omega))⟩
end Go.Proofs.YtgacphpkgaobkaaDoor
