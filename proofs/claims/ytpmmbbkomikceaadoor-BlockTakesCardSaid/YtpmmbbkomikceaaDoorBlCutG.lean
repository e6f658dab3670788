/- Slices of slices of blocks. -/
import Derived.Test.YtpmmbbkomikceaaDoorBlSpec
set_option linter.unusedVariables false
namespace Go.Proofs.YtpmmbbkomikceaaDoor
open Go Go.RowKit

def fromL (A : Option Addr) (c K : Nat) : Option Addr := if c = K then A else Option.map (fun x => x.add (K * 2)) A
theorem elemL : Tryd.prog.elem 29 = 40 := by kernel_rfl
theorem slice_fromL (W : World) (A : Option Addr) (n c K : Nat) (h : K ≤ n) :
    (Instr.slice 29 (.slice A n c) (some (.int .i64 (K : Int))) none none).run Tryd.prog W = .ok (.slice (fromL A c K) (n - K) (c - K)) W := by
  rw [run_slice_l (P := Tryd.prog) (w := W) 29 A n c (by rw [elemL]; exact Tryd.underlying29) .i64 (K : Int) (by omega) (by omega), elemL, Tryd.sizeOf40]
  simp [Result.andThen, sliced, fromL]
theorem slice_toL (W : World) (A : Option Addr) (n c K : Nat) (h : K ≤ c) :
    (Instr.slice 29 (.slice A n c) none (some (.int .i64 (K : Int))) none).run Tryd.prog W = .ok (.slice A K c) W := by
  rw [run_slice_h (P := Tryd.prog) (w := W) 29 A n c (by rw [elemL]; exact Tryd.underlying29) .i64 (K : Int) (by omega) (by omega), elemL, Tryd.sizeOf40]
  by_cases hc : c = 0
  · subst hc; simp [Result.andThen, sliced]
  · cases A <;> simp [Result.andThen, sliced, hc, Addr.add]
theorem rd_fromL {w : World} {A : Option Addr} {zs : List BlZ} (h : RdL w A zs) {c K : Nat} (hc : zs.length ≤ c) (hK : K ≤ zs.length) : RdL w (fromL A c K) (zs.drop K) := by
  refine ⟨?_, fun z hz => h.2 z (List.mem_of_mem_drop hz)⟩
  unfold fromL
  split
  · next e =>
    rw [List.drop_eq_nil_of_le (by omega)]
    exact LayG.Rd.nothing _
  · cases A with
    | none =>
      have e := h.1.none_nil
      subst e
      rw [List.drop_nil]
      exact LayG.Rd.nothing _
    | some ad => exact h.1.drop K
theorem rd_toL {w : World} {A : Option Addr} {zs : List BlZ} (h : RdL w A zs) (K : Nat) : RdL w A (zs.take K) := ⟨h.1.take K, fun z hz => h.2 z (List.mem_of_mem_take hz)⟩
/-- What is scanned lies in the bytes. -/
theorem scanR_le : ∀ (n : Nat) (bs : List UInt8), bs.length ≤ n → (scanR bs).2 ≤ bs.length
  | 0, bs, h => by
    by_cases he : takeE bs = 0
    · have := takeE_len he
      omega
    · rw [scanR_no he]
      exact Nat.zero_le _
  | n + 1, bs, h => by
    by_cases he : takeE bs = 0
    · have h1 := takeE_len he
      have h2 := scanR_le n (bs.drop (lenR bs + 10)) (by rw [List.length_drop]; omega)
      rw [List.length_drop] at h2
      rw [scanR_ok he]
      show lenR bs + 10 + (scanR (bs.drop (lenR bs + 10))).2 ≤ bs.length
      omega
    · rw [scanR_no he]
      exact Nat.zero_le _
end Go.Proofs.YtpmmbbkomikceaaDoor
