/- The check sum of layer 8, as a function of bytes; the document's own Sum, four. -/
import Derived.Test.YtpmmbbkomikceaaDoorBytesG
import Derived.Test.YtpmmbbkomikceaaDoorPass
import Derived.Laws.BitsAllLaws
import Derived.LoopTactic
import Derived.Lib.OthersKept
import Derived.Deep.RegionHeld3
import Derived.Deep.QuietTactic
import Derived.BigQuiet
set_option linter.unusedVariables false
namespace Go.Proofs.YtpmmbbkomikceaaDoor
open Go Go.RowKit

/-- One bit. -/
def stepC (r : Nat) : Nat := if r % 2 = 1 then r / 2 ^^^ 3988292384 else r / 2
def stepsC : Nat → Nat → Nat
  | 0, r => r
  | k + 1, r => stepC (stepsC k r)
/-- One byte. -/
def byteC (r b : Nat) : Nat := stepsC 8 (r ^^^ b)
def regC (bs : List UInt8) : Nat := bs.foldl (fun r b => byteC r b.toNat) 4294967295
def sumC (bs : List UInt8) : Nat := regC bs ^^^ 4294967295
theorem stepC_lt {r : Nat} (h : r < 4294967296) : stepC r < 4294967296 := by
  unfold stepC
  split
  · exact Nat.xor_lt_two_pow (n := 32) (by show r / 2 < 4294967296; omega) (by decide)
  · omega
theorem stepsC_lt {r : Nat} (h : r < 4294967296) : ∀ k, stepsC k r < 4294967296
  | 0 => h
  | k + 1 => stepC_lt (stepsC_lt h k)
theorem xor_lt32 {a b : Nat} (ha : a < 4294967296) (hb : b < 4294967296) : a ^^^ b < 4294967296 := Nat.xor_lt_two_pow (n := 32) ha hb
theorem byteC_lt {r b : Nat} (h : r < 4294967296) (hb : b < 256) : byteC r b < 4294967296 := stepsC_lt (xor_lt32 h (by omega)) 8
theorem regC_lt (bs : List UInt8) : regC bs < 4294967296 := by
  have key : ∀ (bs : List UInt8) (r : Nat), r < 4294967296 → bs.foldl (fun r b => byteC r b.toNat) r < 4294967296 := by
    intro bs
    induction bs with
    | nil => intro r h; exact h
    | cons b t ih => intro r h; exact ih _ (byteC_lt h (UInt8.toNat_lt b))
  exact key bs _ (by decide)
theorem sumC_lt (bs : List UInt8) : sumC bs < 4294967296 := xor_lt32 (regC_lt bs) (by decide)
theorem regC_succ (bs : List UInt8) (k : Nat) (h : k < bs.length) : regC (bs.take (k + 1)) = byteC (regC (bs.take k)) (bs.getD k default).toNat := by
  unfold regC
  rw [List.take_succ_eq_append_getElem h, List.foldl_append]
  simp [List.getD_eq_getElem?_getD, List.getElem?_eq_getElem h]
set_option maxHeartbeats 4000000 in
set_option maxRecDepth 100000 in
theorem refSum_any (A : Option Addr) (c : Nat) (bs : List UInt8) (w : World) (hr : layB.Rd w A bs) (hc : bs.length ≤ c) (hl : bs.length ≤ 1000000) :
    Calls Tryd.prog 10 #[.slice A bs.length c] w fun e w' => e = .returned (.int .u32 (sumC bs : Nat)) ∧ w = w' := by
  have HR := Lib.hid hr
  clear hr
  go_enter Tryd.func10, Tryd.ntmps10
  go_wp2_with fail
  go_loopw [3, 4] (fun r i wr => ∃ k : Nat, k ≤ bs.length ∧ r = .int .u32 (regC (bs.take k) : Nat) ∧ i = .int .i64 (k : Nat) ∧ w = wr) (fun _ i _ => bs.length - (intOf i).toNat)
  case atStart => exact ⟨0, Nat.zero_le _, rfl, rfl, rfl⟩
  case round =>
    obtain ⟨k, hk, rfl, rfl, rfl⟩ := hrel
    by_cases hlt : k < bs.length
    · obtain ⟨ad, rfl, hblk, h0⟩ := layB_at HR.out hlt
      have hsu := regC_succ bs k hlt
      have hrl := regC_lt (bs.take k)
      obtain ⟨b, hb⟩ : ∃ b, bs.getD k default = b := ⟨_, rfl⟩
      rw [hb] at h0 hsu
      obtain ⟨r, hrr⟩ : ∃ r, regC (bs.take k) = r := ⟨_, rfl⟩
      rw [hrr] at hsu hrl ⊢
      have hb8 := UInt8.toNat_lt b
      have hx := u32_xor_nat r b.toNat hrl (by omega)
      have hxl : r ^^^ b.toNat < 4294967296 := xor_lt32 hrl (by omega)
      have hki : (k : Int) < (bs.length : Int) := by omega
      have HSu := Lib.hid hsu
      unfold byteC at HSu
      obtain ⟨x, hxx⟩ : ∃ x, r ^^^ b.toNat = x := ⟨_, rfl⟩
      rw [hxx] at hx hxl HSu
      clear hb hrr hsu hxx
      go_wp2_with fail
      go_loopw [3, 5] (fun r j wx => ∃ m : Nat, m ≤ 8 ∧ r = .int .u32 (stepsC m x : Nat) ∧ j = .int .i64 (m : Nat) ∧ w = wx) (fun _ j _ => 8 - (intOf j).toNat)
      case atStart => exact ⟨0, Nat.zero_le _, by first | rfl | rw [hx]; rfl, rfl, rfl⟩
      case round =>
        obtain ⟨m, hm, rfl, rfl, rfl⟩ := hrel
        by_cases hm8 : m < 8
        · have hyl := stepsC_lt hxl m
          have hst : stepsC (m + 1) x = stepC (stepsC m x) := rfl
          obtain ⟨y, hy⟩ : ∃ y, stepsC m x = y := ⟨_, rfl⟩
          rw [hy] at hyl hst ⊢
          have HSt := Lib.hid hst
          have hmi : (m : Int) < 8 := by omega
          clear hy hst
          by_cases hbit : y % 2 = 1
          · have hbi : (y : Int) % 2 = 1 := by omega
            have hx2 : bits .xor .u32 ((y : Int) / 2) 3988292384 = ((y / 2 ^^^ 3988292384 : Nat) : Int) := by
              have := u32_xor_nat (y / 2) 3988292384 (by omega) (by decide)
              rwa [show (((y / 2 : Nat)) : Int) = (y : Int) / 2 from by omega] at this
            have hs2 : stepC y = y / 2 ^^^ 3988292384 := by unfold stepC; rw [if_pos hbit]
            have HS2 := Lib.hid hs2
            clear hs2
            go_wp2_with fail
            go_roundw
            case rel => exact ⟨m + 1, by omega, by rw [HSt.out, HS2.out], by go_num, by first | rfl | trivial⟩
            case measure => simp [intOf]; omega
          · have hbi : ¬ ((y : Int) % 2 = 1) := by omega
            have hs2 : stepC y = y / 2 := by unfold stepC; rw [if_neg hbit]
            have HS2 := Lib.hid hs2
            clear hs2
            go_wp2_with fail
            go_roundw
            case rel => exact ⟨m + 1, by omega, by rw [HSt.out, HS2.out]; rfl, by go_num, by first | rfl | trivial⟩
            case measure => simp [intOf]; omega
        · obtain rfl : m = 8 := by omega
          go_wp2_with fail
          go_roundw
          case rel => exact ⟨k + 1, by omega, by rw [HSu.out], by go_num, by first | rfl | trivial⟩
          case measure => simp [intOf]; omega
    · obtain rfl : k = bs.length := by omega
      rw [List.take_length]
      have hrl := regC_lt bs
      have hx : bits .xor .u32 (regC bs : Int) 4294967295 = (sumC bs : Nat) := u32_xor_nat (regC bs) 4294967295 hrl (by decide)
      obtain ⟨q, hq⟩ : ∃ q, sumC bs = q := ⟨_, rfl⟩
      obtain ⟨r, hrr⟩ : ∃ r, regC bs = r := ⟨_, rfl⟩
      rw [hrr] at hrl hx ⊢
      rw [hq] at hx
      have HQ := Lib.hid hq
      clear hrr hq
      go_wp2_with fail
      go_ret
      exact ⟨by rw [HQ.out]; rfl, rfl⟩
/-- A number as four bytes. -/
def fourR (n : Nat) : List UInt8 := [UInt8.ofNat (n / 16777216), UInt8.ofNat (n / 65536), UInt8.ofNat (n / 256), UInt8.ofNat n]
theorem fourR_len (n : Nat) : (fourR n).length = 4 := rfl
theorem four_cell (n : Nat) (h : n < 4294967296) : (((UInt8.ofNat n).toNat : Nat) : Int) = (n : Int) % 256 := by
  rw [UInt8.toNat_ofNat']
  omega
set_option maxHeartbeats 4000000 in
set_option maxRecDepth 100000 in
theorem refFour_any (n : Nat) (w : World) (hn : n < 4294967296) :
    Calls Tryd.prog 27 #[.int .u32 (n : Nat)] w fun e w' => ∃ v, e = .returned v ∧ layB.Row 5 w' w.heap.size v 4 (fourR n) ∧ Below w.heap.size w w' := by
  have c0 : (((UInt8.ofNat (n / 16777216)).toNat : Nat) : Int) = (n : Int) / 16777216 := by rw [four_cell _ (by omega)]; omega
  have c1 : (((UInt8.ofNat (n / 65536)).toNat : Nat) : Int) = (n : Int) / 65536 % 256 := by rw [four_cell _ (by omega)]; omega
  have c2 : (((UInt8.ofNat (n / 256)).toNat : Nat) : Int) = (n : Int) / 256 % 256 := by rw [four_cell _ (by omega)]; omega
  have c3 := four_cell n hn
  have hrow := LayG.Row.lit (L := layB) (E := 5) w #[.int .u8 ((UInt8.ofNat (n / 16777216)).toNat : Int), .int .u8 ((UInt8.ofNat (n / 65536)).toNat : Int), .int .u8 ((UInt8.ofNat (n / 256)).toNat : Int), .int .u8 ((UInt8.ofNat n).toNat : Int)] (fourR n) rfl (by rw [fourR_len]; decide)
  rw [fourR_len, c0, c1, c2, c3] at hrow
  have HRow := Lib.hid hrow
  clear hrow c0 c1 c2 c3
  go_enter Tryd.func27, Tryd.ntmps27
  go_wp2_with fail
  go_ret
  exact ⟨_, rfl, HRow.out, (Below.refl _ _).alloc (Nat.le_refl _) _⟩
end Go.Proofs.YtpmmbbkomikceaaDoor
