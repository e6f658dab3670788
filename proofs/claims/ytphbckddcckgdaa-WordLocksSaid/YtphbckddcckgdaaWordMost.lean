/- Slices of words, and the greatest stamp of several. -/
import Derived.Test.YtphbckddcckgdaaWordC
import Derived.Laws.RangeAny
import Derived.Lib.OthersKept
import Derived.LoopTactic
import Derived.Laws.OwnMore
set_option linter.unusedVariables false
namespace Go.Proofs.Ytphbckddcckgdaa
open Go Go.RowKit

def mostW (zs : List Int) : Int := zs.foldl (fun m x => max m (stampW x)) 0
theorem mostW_take (zs : List Int) (k : Nat) (h : k < zs.length) : mostW (zs.take (k + 1)) = max (mostW (zs.take k)) (stampW (zs.getD k 0)) := by
  unfold mostW
  rw [List.take_succ_eq_append_getElem h, List.foldl_append]
  simp [List.getD_eq_getElem?_getD, List.getElem?_eq_getElem h]
theorem stampW_in {x : Int} (h : U64 x) : 0 ≤ stampW x ∧ stampW x < 4611686018427387904 := by
  unfold stampW; have := h.1; omega


set_option maxHeartbeats 4000000 in
set_option maxRecDepth 100000 in
theorem wordMost_any (A : Option Addr) (c : Nat) (zs : List Int) (w : World) (h : RdU w A zs) (hu : Words zs) (hc : zs.length ≤ c) (hl : zs.length ≤ 1000000) :
    Calls Try.prog 21 #[.slice A zs.length c] w fun r w' => r = .returned (.int .u64 (mostW zs)) ∧ Below w.heap.size w w' := by
  have HR := Lib.hid h
  have HU := Lib.hid hu
  clear h hu
  go_enter Try.func21, Try.ntmps21
  go_wp2_with fail
  go_loopw [3, 8] (fun t i wr => ∃ (k : Nat) (m : Int), k ≤ zs.length ∧ i = .int .i64 (k : Nat) ∧ t = .int .u64 m ∧ m = mostW (zs.take k) ∧ Below w.heap.size w wr) (fun _ i _ => zs.length - (intOf i).toNat)
  case atStart => exact ⟨0, 0, Nat.zero_le _, rfl, rfl, rfl, Below.refl _ _⟩
  case round =>
    obtain ⟨k, m, hk, rfl, rfl, hm, hbw⟩ := hrel
    by_cases hlt : k < zs.length
    · obtain ⟨ad, rfl, hb, hcell⟩ := (HR.out.below (Nat.le_refl _) hbw) k hlt
      have hux := HU.out k hlt
      have hmt := mostW_take zs k hlt
      obtain ⟨x, hx⟩ : ∃ x, zs.getD k 0 = x := ⟨_, rfl⟩
      rw [hx] at hcell hux hmt
      rw [← hm] at hmt
      have HM := Lib.hid hmt
      have HS := Lib.hid (fun W => wordStamp_any x W hux)
      clear hm hmt hx hux
      go_wp2_with fail
      refine (HS.out _).mono ?_
      rintro r w2 ⟨rfl, b2⟩
      go_wp2_with fail
      go_roundw
      case rel => exact ⟨k + 1, max m (stampW x), by omega, by go_num, congrArg _ (by split <;> omega), HM.out.symm, btW hbw b2⟩
      case measure => simp [intOf]; omega
    · obtain rfl : k = zs.length := by omega
      rw [List.take_length] at hm
      subst hm
      go_wp2_with fail
      go_ret
      exact ⟨rfl, hbw⟩
end Go.Proofs.Ytphbckddcckgdaa
