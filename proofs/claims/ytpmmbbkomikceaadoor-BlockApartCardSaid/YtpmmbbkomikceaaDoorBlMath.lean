/- Plain Lean: blocks that are whole are scanned as the blocks. -/
import Derived.Test.YtpmmbbkomikceaaDoorBlScan
set_option linter.unusedVariables false
namespace Go.Proofs.YtpmmbbkomikceaaDoor
open Go Go.RowKit

theorem ofNat_mod (n : Nat) : (UInt8.ofNat n).toNat = n % 256 := UInt8.toNat_ofNat'
theorem pack_form (k : UInt8) (b r : List UInt8) : packR k b ++ r = 203 :: k :: UInt8.ofNat (b.length / 16777216) :: UInt8.ofNat (b.length / 65536) :: UInt8.ofNat (b.length / 256) :: UInt8.ofNat b.length :: (b ++ (fourR (sumC (headR k b)) ++ r)) := by
  unfold packR headR fourR
  simp
theorem lenR_pack (k : UInt8) (b r : List UInt8) (h : b.length ≤ 1048576) : lenR (packR k b ++ r) = b.length := by
  rw [pack_form]
  unfold lenR
  simp only [List.getD_eq_getElem?_getD, List.getElem?_cons_succ, List.getElem?_cons_zero, Option.getD_some, ofNat_mod]
  omega
theorem take_head (k : UInt8) (b r : List UInt8) : (packR k b ++ r).take (b.length + 6) = headR k b := by
  unfold packR
  rw [List.append_assoc, List.take_append, List.take_of_length_le (by rw [headR_len]; omega), headR_len, Nat.sub_self, List.take_zero, List.append_nil]
theorem drop_head (k : UInt8) (b r : List UInt8) : (packR k b ++ r).drop (b.length + 6) = fourR (sumC (headR k b)) ++ r := by
  unfold packR
  rw [List.append_assoc, List.drop_append, List.drop_of_length_le (by rw [headR_len]; omega), headR_len, Nat.sub_self, List.drop_zero, List.nil_append]
theorem takeE_pack (k : UInt8) (b r : List UInt8) (h : b.length ≤ 1048576) : takeE (packR k b ++ r) = 0 := by
  have hl : (packR k b ++ r).length = b.length + 10 + r.length := by rw [List.length_append, packR_len]
  have hq := lenR_pack k b r h
  have h0 : (packR k b ++ r).getD 0 default = 203 := by rw [pack_form]; rfl
  unfold takeE
  rw [if_neg (by omega), if_neg (by rw [h0]; simp), if_neg (by omega), hq, if_neg (by omega), if_neg (by omega), take_head, drop_head, if_neg]
  rw [List.take_append, fourR_len, List.take_of_length_le (by rw [fourR_len]; omega), Nat.sub_self, List.take_zero, List.append_nil]
  simp
theorem scanR_pack (k : UInt8) (b r : List UInt8) (h : b.length ≤ 1048576) : scanR (packR k b ++ r) = ((k, b) :: (scanR r).1, b.length + 10 + (scanR r).2) := by
  rw [scanR_ok (takeE_pack k b r h), lenR_pack k b r h]
  have h1 : (packR k b ++ r).getD 1 default = k := by rw [pack_form]; rfl
  have h2 : ((packR k b ++ r).drop 6).take b.length = b := by
    rw [pack_form]
    simp
  have h3 : (packR k b ++ r).drop (b.length + 10) = r := by
    rw [List.drop_append, packR_len, Nat.sub_self, List.drop_of_length_le (by rw [packR_len]; omega), List.nil_append, List.drop_zero]
  rw [h1, h2, h3]
theorem scanR_nil : scanR [] = ([], 0) := scanR_no (by decide)
theorem scanR_all : ∀ (zs : List BlZ) (r : List UInt8), (∀ z ∈ zs, z.body.bs.length ≤ 1048576) → scanR (allR zs ++ r) = (zs.map pairL ++ (scanR r).1, (allR zs).length + (scanR r).2)
  | [], r, _ => by simp [allR]
  | z :: t, r, h => by
    have e : allR (z :: t) = packR z.kind z.body.bs ++ allR t := by simp [allR]
    have ih := scanR_all t r (fun y hy => h y (List.mem_cons_of_mem _ hy))
    rw [e, List.append_assoc, scanR_pack _ _ _ (h z List.mem_cons_self), ih, List.length_append, packR_len]
    simp [pairL]
    omega
theorem scanR_whole (zs : List BlZ) (h : ∀ z ∈ zs, z.body.bs.length ≤ 1048576) : scanR (allR zs) = (zs.map pairL, (allR zs).length) := by
  have := scanR_all zs [] h
  rw [List.append_nil, scanR_nil] at this
  simpa using this
theorem allR_le (zs : List BlZ) (m : Nat) (h : ∀ z ∈ zs, z.body.bs.length ≤ m) : (allR zs).length ≤ zs.length * (m + 10) := by
  induction zs with
  | nil => simp [allR]
  | cons z t ih =>
    have h1 := h z List.mem_cons_self
    have h2 := ih (fun y hy => h y (List.mem_cons_of_mem _ hy))
    have e : allR (z :: t) = packR z.kind z.body.bs ++ allR t := by simp [allR]
    rw [e, List.length_append, packR_len, List.length_cons, Nat.add_mul]
    omega
/-- None is how another one begins. -/
theorem pack_prefix {k k' : UInt8} {b b' r r' : List UInt8} (h : b.length ≤ 1048576) (h' : b'.length ≤ 1048576) (e : packR k b ++ r = packR k' b' ++ r') : (k, b) = (k', b') := by
  have h1 := scanR_pack k b r h
  rw [e, scanR_pack k' b' r' h'] at h1
  have h2 := congrArg Prod.fst h1
  simp only at h2
  exact (List.cons.inj h2).1.symm
end Go.Proofs.YtpmmbbkomikceaaDoor
