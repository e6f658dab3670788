/- The landed package block: a number of four bytes; the library's Clone; Take. -/
import Derived.Test.YtpmmbbkomikceaaDoorBlCode2
import Derived.Lib.LazyBuf
set_option linter.unusedVariables false
namespace Go.Proofs.YtpmmbbkomikceaaDoor
open Go Go.RowKit

/-- What the first four bytes tell. -/
def numR (bs : List UInt8) : Nat := (((bs.getD 0 default).toNat * 256 + (bs.getD 1 default).toNat) * 256 + (bs.getD 2 default).toNat) * 256 + (bs.getD 3 default).toNat
theorem or_low (a b k : Nat) (h : b < 2 ^ k) : 2 ^ k * a ||| b = 2 ^ k * a + b := (Nat.two_pow_add_eq_or_of_lt h a).symm
theorem or_four (a b c d : Nat) (ha : a < 256) (hb : b < 256) (hc : c < 256) (hd : d < 256) :
    bits .or .u32 ((a : Int) * 16777216) ((b : Int) * 65536) = ((a * 16777216 + b * 65536 : Nat) : Int) ∧
    bits .or .u32 ((a * 16777216 + b * 65536 : Nat) : Int) ((c : Int) * 256) = ((a * 16777216 + b * 65536 + c * 256 : Nat) : Int) ∧
    bits .or .u32 ((a * 16777216 + b * 65536 + c * 256 : Nat) : Int) (d : Int) = ((a * 16777216 + b * 65536 + c * 256 + d : Nat) : Int) := by
  refine ⟨?_, ?_, ?_⟩
  · have h := u32_or_nat (a * 16777216) (b * 65536) (by omega) (by omega)
    have e := or_low a (b * 65536) 24 (by omega)
    rw [show 2 ^ 24 * a = a * 16777216 from by omega] at e
    rw [e] at h
    rw [← h]
    rfl
  · have h := u32_or_nat (a * 16777216 + b * 65536) (c * 256) (by omega) (by omega)
    have e := or_low (a * 256 + b) (c * 256) 16 (by omega)
    rw [show 2 ^ 16 * (a * 256 + b) = a * 16777216 + b * 65536 from by omega] at e
    rw [e] at h
    rw [← h]
    rfl
  · have h := u32_or_nat (a * 16777216 + b * 65536 + c * 256) d (by omega) (by omega)
    have e := or_low (a * 65536 + b * 256 + c) d 8 (by omega)
    rw [show 2 ^ 8 * (a * 65536 + b * 256 + c) = a * 16777216 + b * 65536 + c * 256 from by omega] at e
    rw [e] at h
    exact h
set_option maxHeartbeats 8000000 in
set_option maxRecDepth 100000 in
theorem codeNum (A : Option Addr) (l c : Nat) (bs : List UInt8) (w : World) (hr : layB.Rd w A bs) (hl : bs.length = l) (h4 : 4 ≤ l) :
    Calls Tryd.prog 25 #[.slice A l c] w fun e w' => e = .returned (.int .u32 (numR bs : Nat)) ∧ Below w.heap.size w w' := by
  subst hl
  have hb := (Below.refl w.heap.size w).drew
  have HB := Lib.hid hb
  have HR := Lib.hid (hr.below (Nat.le_refl _) hb)
  obtain ⟨ad, rfl, _, g0⟩ := layB_at HR.out (k := 0) (by omega)
  obtain ⟨ae, e1, _, g1⟩ := layB_at HR.out (k := 1) (by omega)
  obtain rfl : ad = ae := by injection e1
  obtain ⟨ae, e2, _, g2⟩ := layB_at HR.out (k := 2) (by omega)
  obtain rfl : ad = ae := by injection e2
  obtain ⟨ae, e3, _, g3⟩ := layB_at HR.out (k := 3) (by omega)
  obtain rfl : ad = ae := by injection e3
  rw [show ad.add 0 = ad from rfl] at g0
  obtain ⟨b0, h0⟩ : ∃ b, bs.getD 0 default = b := ⟨_, rfl⟩
  obtain ⟨b1, h1⟩ : ∃ b, bs.getD 1 default = b := ⟨_, rfl⟩
  obtain ⟨b2, h2⟩ : ∃ b, bs.getD 2 default = b := ⟨_, rfl⟩
  obtain ⟨b3, h3⟩ : ∃ b, bs.getD 3 default = b := ⟨_, rfl⟩
  have hnum : numR bs = b0.toNat * 16777216 + b1.toNat * 65536 + b2.toNat * 256 + b3.toNat := by unfold numR; rw [h0, h1, h2, h3]; omega
  rw [h0] at g0
  rw [h1] at g1
  rw [h2] at g2
  rw [h3] at g3
  have hb0 := UInt8.toNat_lt b0
  have hb1 := UInt8.toNat_lt b1
  have hb2 := UInt8.toNat_lt b2
  have hb3 := UInt8.toNat_lt b3
  obtain ⟨o1, o2, o3⟩ := or_four b0.toNat b1.toNat b2.toNat b3.toNat hb0 hb1 hb2 hb3
  have hi1 : (1 : Int) < (bs.length : Int) := by omega
  have hi2 : (2 : Int) < (bs.length : Int) := by omega
  have hi3 : (3 : Int) < (bs.length : Int) := by omega
  have hi0 : 0 < bs.length := by omega
  rw [show ad.add 1 = { block := ad.block, off := ad.off + 1 } from add_formL ad 0] at g1
  rw [show ad.add 2 = { block := ad.block, off := ad.off + 2 } from add_formL ad 1] at g2
  rw [show ad.add 3 = { block := ad.block, off := ad.off + 3 } from add_formL ad 2] at g3
  have hw : ∀ x : Int, 0 ≤ x → x < 4294967296 → IntKind.u32.wrap x = x := fun x h1 h2 => by
    simp [IntKind.wrap, IntKind.bits, IntKind.signed]
    omega
  have hv : bits BinOp.or IntKind.u32 (bits BinOp.or IntKind.u32 (bits BinOp.or IntKind.u32 (IntKind.u32.wrap (IntKind.u32.wrap (b0.toNat : Int) * 16777216)) (IntKind.u32.wrap (IntKind.u32.wrap (b1.toNat : Int) * 65536))) (IntKind.u32.wrap (IntKind.u32.wrap (b2.toNat : Int) * 256))) (IntKind.u32.wrap (b3.toNat : Int)) = (numR bs : Nat) := by
    rw [hw (b0.toNat : Int) (by omega) (by omega), hw (b1.toNat : Int) (by omega) (by omega), hw (b2.toNat : Int) (by omega) (by omega), hw (b3.toNat : Int) (by omega) (by omega), hw ((b0.toNat : Int) * 16777216) (by omega) (by omega), hw ((b1.toNat : Int) * 65536) (by omega) (by omega), hw ((b2.toNat : Int) * 256) (by omega) (by omega), o1, o2, o3, hnum]
  have HNum := Lib.hid hv
  clear hv hw o1 o2 o3 hr hb e1 e2 e3 h0 h1 h2 h3 hnum
  go_enter Tryd.func25, Tryd.ntmps25
  go_wp2_with fail
  refine wp_region_held_drew (S := (fun W => W.cell? ad = some (.int .u8 (b0.toNat : Int)) ∧ W.cell? { block := ad.block, off := ad.off + 1 } = some (.int .u8 (b1.toNat : Int)) ∧ W.cell? { block := ad.block, off := ad.off + 2 } = some (.int .u8 (b2.toNat : Int)) ∧ W.cell? { block := ad.block, off := ad.off + 3 } = some (.int .u8 (b3.toNat : Int)))) (by kernel_rfl) ⟨g0, g1, g2, g3⟩ (fun hHeld => ?_)
  refine wpAnyH_take (i := 0) (v := ?_) (by simp only [List.getElem?_toArray, List.getElem?_cons_zero]; rfl) (by kernel_rfl) (by kernel_rfl) (by kernel_rfl) (by exact fun _ _ _ h => h) (Or.inl ⟨by rfl, ?_⟩) (by assumption) ?_
  rotate_left
  · intro w hSw; (try dsimp only at hSw); go_simp; (try with_reducible rfl)
  try simp only [Act.put, List.setIfInBounds_toArray, List.set_cons_zero, List.set_cons_succ]
  refine wpAnyH_take (i := 1) (v := ?_) (by simp only [List.getElem?_toArray, List.getElem?_cons_zero, List.getElem?_cons_succ]; rfl) (by kernel_rfl) (by kernel_rfl) (by kernel_rfl) (by exact fun _ _ _ h => h) (Or.inl ⟨by rfl, ?_⟩) (by assumption) ?_
  rotate_left
  · intro w hSw; (try dsimp only at hSw); go_simp; (try with_reducible rfl)
  try simp only [Act.put, List.setIfInBounds_toArray, List.set_cons_zero, List.set_cons_succ]
  refine wpAnyH_take (i := 2) (v := ?_) (by simp only [List.getElem?_toArray, List.getElem?_cons_zero, List.getElem?_cons_succ]; rfl) (by kernel_rfl) (by kernel_rfl) (by kernel_rfl) (by exact fun _ _ _ h => h) (Or.inl ⟨by rfl, ?_⟩) (by assumption) ?_
  rotate_left
  · intro w hSw; (try dsimp only at hSw); go_simp; (try with_reducible rfl)
  try simp only [Act.put, List.setIfInBounds_toArray, List.set_cons_zero, List.set_cons_succ]
  refine wpAnyH_take (i := 3) (v := ?_) (by simp only [List.getElem?_toArray, List.getElem?_cons_zero, List.getElem?_cons_succ]; rfl) (by kernel_rfl) (by kernel_rfl) (by kernel_rfl) (by exact fun _ _ _ h => h) (Or.inl ⟨by rfl, ?_⟩) (by assumption) ?_
  rotate_left
  · intro w hSw; (try dsimp only at hSw); go_simp; (try with_reducible rfl)
  try simp only [Act.put, List.setIfInBounds_toArray, List.set_cons_zero, List.set_cons_succ]
  refine wpAnyH_take (i := 4) (v := ?_) (by simp only [List.getElem?_toArray, List.getElem?_cons_zero, List.getElem?_cons_succ]; rfl) (by kernel_rfl) (by kernel_rfl) (by kernel_rfl) (by exact fun _ _ _ h => h) (Or.inl ⟨by rfl, ?_⟩) (by assumption) ?_
  rotate_left
  · intro w hSw; (try dsimp only at hSw); go_simp; (try with_reducible rfl)
  try simp only [Act.put, List.setIfInBounds_toArray, List.set_cons_zero, List.set_cons_succ]
  refine wpAnyH_take (i := 5) (v := ?_) (by simp only [List.getElem?_toArray, List.getElem?_cons_zero, List.getElem?_cons_succ]; rfl) (by kernel_rfl) (by kernel_rfl) (by kernel_rfl) (by exact fun _ _ _ h => h) (Or.inl ⟨by rfl, ?_⟩) (by assumption) ?_
  rotate_left
  · intro w hSw; (try dsimp only at hSw); go_simp; (try with_reducible rfl)
  try simp only [Act.put, List.setIfInBounds_toArray, List.set_cons_zero, List.set_cons_succ]
  refine wpAnyH_take (i := 6) (v := ?_) (by simp only [List.getElem?_toArray, List.getElem?_cons_zero, List.getElem?_cons_succ]; rfl) (by kernel_rfl) (by kernel_rfl) (by kernel_rfl) (by exact fun _ _ _ h => h) (Or.inl ⟨by rfl, ?_⟩) (by assumption) ?_
  rotate_left
  · intro w hSw; (try dsimp only at hSw); go_simp; (try with_reducible rfl)
  try simp only [Act.put, List.setIfInBounds_toArray, List.set_cons_zero, List.set_cons_succ]
  refine wpAnyH_take (i := 7) (v := ?_) (by simp only [List.getElem?_toArray, List.getElem?_cons_zero, List.getElem?_cons_succ]; rfl) (by kernel_rfl) (by kernel_rfl) (by kernel_rfl) (by exact fun _ _ _ h => h) (Or.inl ⟨by rfl, ?_⟩) (by assumption) ?_
  rotate_left
  · intro w hSw; (try dsimp only at hSw); go_simp; (try with_reducible rfl)
  try simp only [Act.put, List.setIfInBounds_toArray, List.set_cons_zero, List.set_cons_succ]
  refine wpAnyH_take (i := 8) (v := ?_) (by simp only [List.getElem?_toArray, List.getElem?_cons_zero, List.getElem?_cons_succ]; rfl) (by kernel_rfl) (by kernel_rfl) (by kernel_rfl) (by exact fun _ _ _ h => h) (Or.inl ⟨by rfl, ?_⟩) (by assumption) ?_
  rotate_left
  · intro w hSw; (try dsimp only at hSw); go_simp; (try with_reducible rfl)
  try simp only [Act.put, List.setIfInBounds_toArray, List.set_cons_zero, List.set_cons_succ]
  refine wpAnyH_take (i := 9) (v := ?_) (by simp only [List.getElem?_toArray, List.getElem?_cons_zero, List.getElem?_cons_succ]; rfl) (by kernel_rfl) (by kernel_rfl) (by kernel_rfl) (by exact fun _ _ _ h => h) (Or.inl ⟨by rfl, ?_⟩) (by assumption) ?_
  rotate_left
  · intro w hSw; (try dsimp only at hSw); go_simp; (try with_reducible rfl)
  try simp only [Act.put, List.setIfInBounds_toArray, List.set_cons_zero, List.set_cons_succ]
  refine wpAnyH_take (i := 10) (v := ?_) (by simp only [List.getElem?_toArray, List.getElem?_cons_zero, List.getElem?_cons_succ]; rfl) (by kernel_rfl) (by kernel_rfl) (by kernel_rfl) (by exact fun _ _ _ h => h) (Or.inl ⟨by rfl, ?_⟩) (by assumption) ?_
  rotate_left
  · intro w hSw; (try dsimp only at hSw); go_simp; (try with_reducible rfl)
  try simp only [Act.put, List.setIfInBounds_toArray, List.set_cons_zero, List.set_cons_succ]
  refine wpAnyH_take (i := 11) (v := ?_) (by simp only [List.getElem?_toArray, List.getElem?_cons_zero, List.getElem?_cons_succ]; rfl) (by kernel_rfl) (by kernel_rfl) (by kernel_rfl) (by exact fun _ _ _ h => h) (Or.inl ⟨by rfl, ?_⟩) (by assumption) ?_
  rotate_left
  · intro w hSw; (try dsimp only at hSw); go_simp; (try with_reducible rfl)
  try simp only [Act.put, List.setIfInBounds_toArray, List.set_cons_zero, List.set_cons_succ]
  refine wpAnyH_take (i := 12) (v := ?_) (by simp only [List.getElem?_toArray, List.getElem?_cons_zero, List.getElem?_cons_succ]; rfl) (by kernel_rfl) (by kernel_rfl) (by kernel_rfl) (by exact fun _ _ _ h => h) (Or.inl ⟨by rfl, ?_⟩) (by assumption) ?_
  rotate_left
  · intro w hSw; (try dsimp only at hSw); go_simp; (try with_reducible rfl)
  try simp only [Act.put, List.setIfInBounds_toArray, List.set_cons_zero, List.set_cons_succ]
  refine wpAnyH_take (i := 13) (v := ?_) (by simp only [List.getElem?_toArray, List.getElem?_cons_zero, List.getElem?_cons_succ]; rfl) (by kernel_rfl) (by kernel_rfl) (by kernel_rfl) (by exact fun _ _ _ h => h) (Or.inl ⟨by rfl, ?_⟩) (by assumption) ?_
  rotate_left
  · intro w hSw; (try dsimp only at hSw); go_simp; (try with_reducible rfl)
  try simp only [Act.put, List.setIfInBounds_toArray, List.set_cons_zero, List.set_cons_succ]
  refine wpAnyH_take (i := 14) (v := ?_) (by simp only [List.getElem?_toArray, List.getElem?_cons_zero, List.getElem?_cons_succ]; rfl) (by kernel_rfl) (by kernel_rfl) (by kernel_rfl) (by exact fun _ _ _ h => h) (Or.inl ⟨by rfl, ?_⟩) (by assumption) ?_
  rotate_left
  · intro w hSw; (try dsimp only at hSw); go_simp; (try with_reducible rfl)
  try simp only [Act.put, List.setIfInBounds_toArray, List.set_cons_zero, List.set_cons_succ]
  refine wpAnyH_take (i := 15) (v := ?_) (by simp only [List.getElem?_toArray, List.getElem?_cons_zero, List.getElem?_cons_succ]; rfl) (by kernel_rfl) (by kernel_rfl) (by kernel_rfl) (by exact fun _ _ _ h => h) (Or.inl ⟨by rfl, ?_⟩) (by assumption) ?_
  rotate_left
  · intro w hSw; (try dsimp only at hSw); go_simp; (try with_reducible rfl)
  try simp only [Act.put, List.setIfInBounds_toArray, List.set_cons_zero, List.set_cons_succ]
  refine wpAnyH_take (i := 16) (v := ?_) (by simp only [List.getElem?_toArray, List.getElem?_cons_zero, List.getElem?_cons_succ]; rfl) (by kernel_rfl) (by kernel_rfl) (by kernel_rfl) (by exact fun _ _ _ h => h) (Or.inl ⟨by rfl, ?_⟩) (by assumption) ?_
  rotate_left
  · intro w hSw; (try dsimp only at hSw); go_simp; (try with_reducible rfl)
  try simp only [Act.put, List.setIfInBounds_toArray, List.set_cons_zero, List.set_cons_succ]
  refine wpAnyH_take (i := 17) (v := ?_) (by simp only [List.getElem?_toArray, List.getElem?_cons_zero, List.getElem?_cons_succ]; rfl) (by kernel_rfl) (by kernel_rfl) (by kernel_rfl) (by exact fun _ _ _ h => h) (Or.inl ⟨by rfl, ?_⟩) (by assumption) ?_
  rotate_left
  · intro w hSw; (try dsimp only at hSw); go_simp; (try with_reducible rfl)
  try simp only [Act.put, List.setIfInBounds_toArray, List.set_cons_zero, List.set_cons_succ]
  refine wpAnyH_take (i := 18) (v := ?_) (by simp only [List.getElem?_toArray, List.getElem?_cons_zero, List.getElem?_cons_succ]; rfl) (by kernel_rfl) (by kernel_rfl) (by kernel_rfl) (by exact fun _ _ _ h => h) (Or.inl ⟨by rfl, ?_⟩) (by assumption) ?_
  rotate_left
  · intro w hSw; (try dsimp only at hSw); go_simp; (try with_reducible rfl)
  try simp only [Act.put, List.setIfInBounds_toArray, List.set_cons_zero, List.set_cons_succ]
  refine wpAnyH_take (i := 19) (v := ?_) (by simp only [List.getElem?_toArray, List.getElem?_cons_zero, List.getElem?_cons_succ]; rfl) (by kernel_rfl) (by kernel_rfl) (by kernel_rfl) (by exact fun _ _ _ h => h) (Or.inl ⟨by rfl, ?_⟩) (by assumption) ?_
  rotate_left
  · intro w hSw; (try dsimp only at hSw); go_simp; (try with_reducible rfl)
  try simp only [Act.put, List.setIfInBounds_toArray, List.set_cons_zero, List.set_cons_succ]
  refine wpAnyH_take (i := 20) (v := ?_) (by simp only [List.getElem?_toArray, List.getElem?_cons_zero, List.getElem?_cons_succ]; rfl) (by kernel_rfl) (by kernel_rfl) (by kernel_rfl) (by exact fun _ _ _ h => h) (Or.inl ⟨by rfl, ?_⟩) (by assumption) ?_
  rotate_left
  · intro w hSw; (try dsimp only at hSw); go_simp; (try with_reducible rfl)
  try simp only [Act.put, List.setIfInBounds_toArray, List.set_cons_zero, List.set_cons_succ]
  refine wpAnyH_take (i := 21) (v := ?_) (by simp only [List.getElem?_toArray, List.getElem?_cons_zero, List.getElem?_cons_succ]; rfl) (by kernel_rfl) (by kernel_rfl) (by kernel_rfl) (by exact fun _ _ _ h => h) (Or.inl ⟨by rfl, ?_⟩) (by assumption) ?_
  rotate_left
  · intro w hSw; (try dsimp only at hSw); go_simp; (try with_reducible rfl)
  try simp only [Act.put, List.setIfInBounds_toArray, List.set_cons_zero, List.set_cons_succ]
  refine wpAnyH_take (i := 22) (v := ?_) (by simp only [List.getElem?_toArray, List.getElem?_cons_zero, List.getElem?_cons_succ]; rfl) (by kernel_rfl) (by kernel_rfl) (by kernel_rfl) (by exact fun _ _ _ h => h) (Or.inl ⟨by rfl, ?_⟩) (by assumption) ?_
  rotate_left
  · intro w hSw; (try dsimp only at hSw); go_simp; (try with_reducible rfl)
  try simp only [Act.put, List.setIfInBounds_toArray, List.set_cons_zero, List.set_cons_succ]
  refine wpAnyH_done (by kernel_rfl) ?_ _
  go_wp2_with fail
  go_ret
  exact ⟨congrArg (fun x => Ending.returned (Value.int .u32 x)) HNum.out, HB.out⟩
set_option maxHeartbeats 8000000 in
set_option maxRecDepth 100000 in
theorem codeClone (A : Option Addr) (l c : Nat) (bs : List UInt8) (w : World) (hr : layB.Rd w A bs) (hl : bs.length = l) (hm : l ≤ 1000000) :
    Calls Tryd.prog 26 #[.slice A l c] w fun e w' => ∃ A' c', e = .returned (.slice A' l c') ∧ l ≤ c' ∧ layB.Rd w' A' bs ∧ Below w.heap.size w w' ∧ (∀ a, A' = some a → w.heap.size ≤ a.block) := by
  subst hl
  have HR := Lib.hid hr
  have hnil := fun (W : World) => Go.run_eql_slice_nil (P := Tryd.prog) W 24 5 A bs.length c Tryd.underlying24
  clear hr
  go_enter Tryd.func26, Tryd.ntmps26
  cases A with
  | none =>
    have e := HR.out.none_nil
    subst e
    have hnil := fun (W : World) => Go.run_eql_slice_nil (P := Tryd.prog) W 24 5 none 0 c Tryd.underlying24
    go_wp2_with fail
    go_ret
    exact ⟨none, 0, rfl, Nat.le_refl _, LayG.Rd.nothing _, Below.refl _ _, fun a e => by cases e⟩
  | some ad =>
    have hrow := LayG.Row.lit (L := layB) (E := 5) w #[] [] rfl (by simp [maxLen])
    have hb := (Below.refl w.heap.size w).alloc (Nat.le_refl _) (.cells #[] 5)
    have HRow := Lib.hid hrow
    have HB := Lib.hid hb
    clear hrow hb
    go_wp2_with (at_builtin; refine wpList_append_G typB rfl _ _ rfl w.heap.size (.slice (some ⟨w.heap.size, 0, none⟩) 0 0) 0 [] rfl HRow.out (some ad) bs.length c bs rfl rfl (HR.out.below (Nat.le_refl _) HB.out) (by omega) HB.out.size (w.heap.size + 1) (by simp) ?_)
    intro v1 w1 r1 g1 l1
    have hb1 := HB.out.grown g1 HB.out.size (fun g hg => (HRow.out.lt g hg).1)
    obtain ⟨A1, c1, rfl, hc1, hrd1, hAA, _⟩ := r1.rd
    have HAA := Lib.hid hAA
    clear hAA
    have HB1 := Lib.hid hb1
    have HRd1 := Lib.hid hrd1
    have HC1 := Lib.hid hc1
    clear r1 g1 l1 hb1 hrd1 hc1
    go_wp2_with fail
    go_ret
    exact ⟨A1, c1, by simp, by simpa using HC1.out, by simpa using HRd1.out, HB1.out, fun a e => (HAA.out a e).2.2.1⟩
/-- The error of a block's head, and of its length. -/
def headE (bs : List UInt8) : Nat :=
  if bs.length = 0 then 20 else if bs.getD 0 default ≠ 203 then 80 else if bs.length < 6 then 20 else if 1048576 < lenR bs then 82 else if bs.length < lenR bs + 10 then 20 else 0
theorem takeE_head (bs : List UInt8) : takeE bs = if headE bs = 0 then (if fourR (sumC (bs.take (lenR bs + 6))) ≠ (bs.drop (lenR bs + 6)).take 4 then 81 else 0) else headE bs := by
  unfold takeE headE
  repeat' split
  all_goals first | rfl | omega | contradiction
theorem headE_len {bs : List UInt8} (h : headE bs = 0) : lenR bs + 10 ≤ bs.length ∧ lenR bs ≤ 1048576 := by
  unfold headE at h
  repeat' split at h
  all_goals first | omega | cases h
theorem numR_len (bs : List UInt8) : numR (bs.drop 2) = lenR bs := by
  have g := fun j => show (bs.drop 2).getD j default = bs.getD (2 + j) default from by rw [List.getD_eq_getElem?_getD, List.getElem?_drop, List.getD_eq_getElem?_getD]
  unfold numR lenR
  rw [g 0, g 1, g 2, g 3]
theorem numR_lt (bs : List UInt8) : numR bs < 4294967296 := by
  unfold numR
  have h0 := UInt8.toNat_lt (bs.getD 0 default)
  have h1 := UInt8.toNat_lt (bs.getD 1 default)
  have h2 := UInt8.toNat_lt (bs.getD 2 default)
  have h3 := UInt8.toNat_lt (bs.getD 3 default)
  omega
theorem four_num (l : List UInt8) (x : Nat) (hl : 4 ≤ l.length) (hx : x < 4294967296) : fourR x = l.take 4 ↔ numR l = x := by
  match l, hl with
  | a :: b :: c :: d :: r, _ =>
    have h0 := UInt8.toNat_lt a
    have h1 := UInt8.toNat_lt b
    have h2 := UInt8.toNat_lt c
    have h3 := UInt8.toNat_lt d
    have e : numR (a :: b :: c :: d :: r) = ((a.toNat * 256 + b.toNat) * 256 + c.toNat) * 256 + d.toNat := rfl
    rw [e]
    show [UInt8.ofNat (x / 16777216), UInt8.ofNat (x / 65536), UInt8.ofNat (x / 256), UInt8.ofNat x] = [a, b, c, d] ↔ _
    simp only [List.cons.injEq, and_true, ← UInt8.toNat_inj, UInt8.toNat_ofNat']
    constructor
    · rintro ⟨q0, q1, q2, q3⟩
      omega
    · intro q
      subst q
      refine ⟨?_, ?_, ?_, ?_⟩ <;> omega
set_option maxHeartbeats 8000000 in
set_option maxRecDepth 100000 in
theorem codeHead (A : Option Addr) (c : Nat) (bs : List UInt8) (w : World) (hr : layB.Rd w A bs) (hc : bs.length ≤ c) (hl : bs.length ≤ 900000) :
    Calls Tryd.prog 24 #[.slice A bs.length c] w fun e w' => ((headE bs ≠ 0 ∧ e = .returned (.tuple #[.int .i64 0, .int .i64 (headE bs : Nat)])) ∨ (headE bs = 0 ∧ e = .returned (.tuple #[.int .i64 (lenR bs : Nat), .int .i64 0]))) ∧ Below w.heap.size w w' := by
  have HR := Lib.hid hr
  clear hr
  go_enter Tryd.func24, Tryd.ntmps24
  by_cases h0 : bs.length = 0
  · have HE := Lib.hid (show headE bs = 20 from by unfold headE; rw [if_pos h0])
    have h0i : (bs.length : Int) = 0 := by omega
    go_wp2_with fail
    exact bodyPost_ret (v := .tuple #[.int .i64 0, .int .i64 20]) (by simp [results, Tryd.results24, go_sem]) rfl ⟨.inl ⟨by rw [HE.out]; decide, by rw [HE.out]; rfl⟩, Below.refl _ _⟩
  · have h0i : ¬ ((bs.length : Int) = 0) := by omega
    obtain ⟨ad, rfl, hblk, k0⟩ := layB_at HR.out (k := 0) (by omega)
    rw [show ad.add 0 = ad from rfl] at k0
    have hpos : 0 < bs.length := by omega
    by_cases h1 : bs.getD 0 default ≠ 203
    · have HE := Lib.hid (show headE bs = 80 from by unfold headE; rw [if_neg h0, if_pos h1])
      have h1i : ¬ (((bs.getD 0 default).toNat : Int) = 203) := fun e => h1 (UInt8.toNat_inj.1 (by show _ = 203; omega))
      obtain ⟨b0, hb0⟩ : ∃ b, bs.getD 0 default = b := ⟨_, rfl⟩
      rw [hb0] at k0 h1i
      clear h1 hb0
      go_wp2_with fail
      exact bodyPost_ret (v := .tuple #[.int .i64 0, .int .i64 80]) (by simp [results, Tryd.results24, go_sem]) rfl ⟨.inl ⟨by rw [HE.out]; decide, by rw [HE.out]; rfl⟩, Below.refl _ _⟩
    · have h1e : bs.getD 0 default = 203 := Classical.not_not.1 h1
      rw [h1e] at k0
      have k0 : w.cell? ad = some (.int .u8 203) := k0
      by_cases h6 : bs.length < 6
      · have HE := Lib.hid (show headE bs = 20 from by unfold headE; rw [if_neg h0, if_neg h1, if_pos h6])
        have h6i : (bs.length : Int) < 6 := by omega
        clear h1 h1e
        go_wp2_with fail
        exact bodyPost_ret (v := .tuple #[.int .i64 0, .int .i64 20]) (by simp [results, Tryd.results24, go_sem]) rfl ⟨.inl ⟨by rw [HE.out]; decide, by rw [HE.out]; rfl⟩, Below.refl _ _⟩
      · have h6i : ¬ ((bs.length : Int) < 6) := by omega
        have hnE : headE bs = if 1048576 < lenR bs then 82 else if bs.length < lenR bs + 10 then 20 else 0 := by unfold headE; rw [if_neg h0, if_neg h1, if_neg h6]
        have hsl : ∀ W : World, (Instr.slice 24 (.slice (some ad) bs.length c) (some (.int .i64 2)) none none).run Tryd.prog W = .ok (.slice (fromA (some ad) c 2) (bs.length - 2) (c - 2)) W := fun W => slice_fromB W (some ad) bs.length c 2 (by omega)
        have hrd := rd_from HR.out hc (K := 2) (by omega)
        have hN := codeNum (fromA (some ad) c 2) (bs.length - 2) (c - 2) (bs.drop 2) w hrd (by rw [List.length_drop]) (by omega)
        rw [numR_len] at hN
        obtain ⟨AF, hAF⟩ : ∃ X, fromA (some ad) c 2 = X := ⟨_, rfl⟩
        rw [hAF] at hsl hN
        have hlt : lenR bs < 4294967296 := by rw [← numR_len]; exact numR_lt _
        obtain ⟨n, hn⟩ : ∃ n, lenR bs = n := ⟨_, rfl⟩
        rw [hn] at hN hlt hnE
        have HN := Lib.hid hN
        have HNE := Lib.hid hnE
        have HNn := Lib.hid hn
        have hcw : IntKind.i64.wrap (n : Int) = (n : Int) := IntWalk.i64_in _ (by omega)
        clear hN hnE hn h1 h1e hAF hrd
        go_wp2_with fail
        refine HN.out.mono ?_
        rintro e w1 ⟨rfl, b1⟩
        have HB := Lib.hid b1
        clear b1 HN
        by_cases hbig : 1048576 < n
        · have hE := HNE.out
          rw [if_pos hbig] at hE
          have HE := Lib.hid hE
          have hbi : (1048576 : Int) < (n : Int) := by omega
          clear hE
          go_wp2_with fail
          exact bodyPost_ret (v := .tuple #[.int .i64 0, .int .i64 82]) (by simp [results, Tryd.results24, go_sem]) rfl ⟨.inl ⟨by rw [HE.out]; decide, by rw [HE.out]; rfl⟩, HB.out⟩
        · have hbi : ¬ ((1048576 : Int) < (n : Int)) := by omega
          have hE := HNE.out
          rw [if_neg hbig] at hE
          by_cases hsh : bs.length < n + 10
          · rw [if_pos hsh] at hE
            have HE := Lib.hid hE
            have hsi : (bs.length : Int) < 6 + (n : Int) + 4 := by omega
            clear hE
            go_wp2_with fail
            exact bodyPost_ret (v := .tuple #[.int .i64 0, .int .i64 20]) (by simp [results, Tryd.results24, go_sem]) rfl ⟨.inl ⟨by rw [HE.out]; decide, by rw [HE.out]; rfl⟩, HB.out⟩
          · rw [if_neg hsh] at hE
            have HE := Lib.hid hE
            have hsi : ¬ ((bs.length : Int) < 6 + (n : Int) + 4) := by omega
            clear hE
            go_wp2_with fail
            exact bodyPost_ret (v := .tuple #[.int .i64 (n : Nat), .int .i64 0]) (by simp [results, Tryd.results24, go_sem]) rfl ⟨.inr ⟨HE.out, by rw [HNn.out]⟩, HB.out⟩
def TakenR (bs : List UInt8) (w : World) (e : Ending) (w' : World) : Prop :=
  Below w.heap.size w w' ∧
      ((takeE bs ≠ 0 ∧ ∃ a cc, e = .returned (.tuple #[.agg #[.int .u8 0, .slice a 0 cc], .int .i64 0, .int .i64 (takeE bs : Nat)])) ∨
       (takeE bs = 0 ∧ ∃ a cc, e = .returned (.tuple #[.agg #[.int .u8 ((bs.getD 1 default).toNat : Int), .slice a (lenR bs) cc], .int .i64 ((lenR bs + 10 : Nat) : Int), .int .i64 0]) ∧ lenR bs ≤ cc ∧ layB.Rd w' a ((bs.drop 6).take (lenR bs)) ∧ (∀ x, a = some x → w.heap.size ≤ x.block)))
set_option maxHeartbeats 8000000 in
set_option maxRecDepth 100000 in
theorem codeTake (A : Option Addr) (c : Nat) (bs : List UInt8) (w : World) (hr : layB.Rd w A bs) (hc : bs.length ≤ c) (hl : bs.length ≤ 900000) (hT : ShT w) :
    Calls Tryd.prog 17 #[.slice A bs.length c] w (TakenR bs w) := by
  have HT := Lib.hid hT
  have HR := Lib.hid hr
  have hB := (Below.refl w.heap.size w).alloc (Nat.le_refl _) (.cells #[.int .u8 0, .slice none 0 0] 40)
  have hC := codeHead A c bs (w.alloc (.cells #[.int .u8 0, .slice none 0 0] 40)) (hr.below (Nat.le_refl _) hB) hc hl
  have HC := Lib.hid hC
  have HB := Lib.hid hB
  have hbz := fun W => run_build (P := Tryd.prog) W 40 #[] #[.int .u8 0, .slice none 0 0] (by kernel_rfl)
  clear hr hB hC hT
  go_enter Tryd.func17, Tryd.ntmps17
  go_wp2_with fail
  refine HC.out.mono ?_
  rintro e w1 ⟨hcase, b1⟩
  have hres : w1.heap[w.heap.size]? = some (.cells #[.int .u8 0, .slice none 0 0] 40 (0, 0)) := (b1.block w.heap.size (by simp)).trans (resL w)
  have hb1 := HB.out.trans (b1.mono HB.out.size)
  have HB1 := Lib.hid hb1
  have HRes := Lib.hid hres
  clear b1 HC HB
  rcases hcase with ⟨hne, rfl⟩ | ⟨he, rfl⟩
  · have hTe : takeE bs = headE bs := by rw [takeE_head, if_neg hne]
    obtain ⟨q, hq⟩ : ∃ q, headE bs = q := ⟨_, rfl⟩
    rw [hq] at hne hTe ⊢
    have HTe := Lib.hid hTe
    have hni : ¬ ((q : Int) = 0) := by omega
    obtain ⟨r0, r1⟩ := blkL hres
    obtain ⟨f0, f1⟩ := frL hres
    obtain ⟨s0, s1⟩ := blkL (setL hres (.int .u8 0) (.slice none 0 0))
    clear hTe hq hres hb1
    go_wp2_with fail
    exact bodyPost_ret (v := .tuple #[.agg #[.int .u8 0, .slice none 0 0], .int .i64 0, .int .i64 (q : Int)]) (by simp [results, Tryd.results17, go_sem, s0, s1]) rfl ⟨belL HB1.out _ _, .inl ⟨by rw [HTe.out]; exact hne, none, 0, by rw [HTe.out]⟩⟩
  · obtain ⟨hle, hlm⟩ := headE_len he
    obtain ⟨ad, rfl, hblk, _⟩ := layB_at HR.out (k := 0) (by omega)
    have hTe : takeE bs = if fourR (sumC (bs.take (lenR bs + 6))) ≠ (bs.drop (lenR bs + 6)).take 4 then 81 else 0 := by rw [takeE_head, if_pos he]
    obtain ⟨n, hn⟩ : ∃ n, lenR bs = n := ⟨_, rfl⟩
    rw [hn] at hTe hle hlm ⊢
    have HNn := Lib.hid hn
    have hw6 : (6 : Int) + (n : Int) = ((n + 6 : Nat) : Int) := by omega
    obtain ⟨n6, hn6⟩ : ∃ n6, n + 6 = n6 := ⟨_, rfl⟩
    obtain ⟨n10, hn10⟩ : ∃ n10, n + 10 = n10 := ⟨_, rfl⟩
    rw [hn6] at hTe hw6
    have HSz := Lib.hid (show n6 = n + 6 ∧ n10 = n + 10 from ⟨hn6.symm, hn10.symm⟩)
    have hs6 : IntKind.i64.wrap ((6 : Int) + (n : Int)) = (n6 : Int) := by rw [IntWalk.i64_in _ (by omega)]; omega
    have hs10 : IntKind.i64.wrap ((n6 : Int) + 4) = (n10 : Int) := by rw [IntWalk.i64_in _ (by omega)]; omega
    have hn6l : n6 + 4 ≤ bs.length := by omega
    have hm1 := fun W => slice_toB W (some ad) bs.length c n6 (by omega)
    have hm2 := fun W => slice_fromB W (some ad) bs.length c n6 (by omega)
    have hmb : ∀ W : World, (Instr.slice 24 (.slice (some ad) bs.length c) (some (.int .i64 6)) (some (.int .i64 (n6 : Int))) none).run Tryd.prog W = .ok (.slice (fromA (some ad) c 6) (n6 - 6) (c - 6)) W := fun W => slice_midB W (some ad) bs.length c 6 n6 (by omega) (by omega)
    rw [show n6 - 6 = n from by omega] at hmb
    have hrM := fun (V : World) (hV : layB.Rd V (some ad) bs) => rd_from (w := V) hV hc (K := n6) (by omega)
    have hrB := fun (V : World) (hV : layB.Rd V (some ad) bs) => (rd_from (w := V) hV hc (K := 6) (by omega)).take n
    obtain ⟨AM, hAM⟩ : ∃ A, fromA (some ad) c n6 = A := ⟨_, rfl⟩
    obtain ⟨AB, hAB⟩ : ∃ A, fromA (some ad) c 6 = A := ⟨_, rfl⟩
    rw [hAM] at hm2 hrM
    rw [hAB] at hmb hrB
    have htl : (bs.take n6).length = n6 := by rw [List.length_take]; omega
    have hdl : (bs.drop n6).length = bs.length - n6 := List.length_drop
    have hSum : ∀ W, layB.Rd W (some ad) bs → ShT W → Calls Tryd.prog 9 #[.slice (some ⟨W.heap.size, 0, none⟩) 1 1] (W.alloc (.cells #[.slice (some ad) n6 c] 24)) fun e w' => e = .returned (.int .u32 (sumC (bs.take n6) : Nat)) ∧ W.alloc (.cells #[.slice (some ad) n6 c] 24) = w' := fun W hW hTW => by
      have hbW := (Below.refl W.heap.size W).alloc (Nat.le_refl _) (.cells #[.slice (some ad) n6 c] 24)
      have hrs : RdS (W.alloc (.cells #[.slice (some ad) n6 c] 24)) (some ⟨W.heap.size, 0, none⟩) [⟨some ad, c, bs.take n6⟩] := by
        refine ⟨LayG.Rd.lit (L := layS) (E := 24) W _ [⟨some ad, c, bs.take n6⟩] (by show [Value.slice (some ad) n6 c] = [Value.slice (some ad) (bs.take n6).length c]; rw [htl]) (by simp [maxLen]), fun y hy => ?_⟩
        rw [List.mem_singleton.1 hy]
        exact ⟨by show (bs.take n6).length ≤ c; rw [htl]; omega, (hW.take n6).below (Nat.le_refl _) hbW⟩
      have hS := codeSum (some ⟨W.heap.size, 0, none⟩) 1 [⟨some ad, c, bs.take n6⟩] _ hrs (Nat.le_refl _) (by show 1 ≤ 1000000; decide) (by show ([⟨some ad, c, bs.take n6⟩].flatMap BsZ.bs).length ≤ 1000000; simp; omega) (hTW.below hbW)
      rw [show catS [⟨some ad, c, bs.take n6⟩] = bs.take n6 from by simp [catS]] at hS
      exact hS
    have hNum : ∀ W, layB.Rd W (some ad) bs → Calls Tryd.prog 25 #[.slice AM (bs.length - n6) (c - n6)] W fun e w' => e = .returned (.int .u32 (numR (bs.drop n6) : Nat)) ∧ Below W.heap.size W w' := fun W hW => codeNum AM (bs.length - n6) (c - n6) (bs.drop n6) W (hrM W hW) hdl (by omega)
    have hfn := four_num (bs.drop n6) (sumC (bs.take n6)) (by rw [hdl]; omega) (sumC_lt _)
    have hsl := sumC_lt (bs.take n6)
    have hnl := numR_lt (bs.drop n6)
    obtain ⟨sm, hsm⟩ : ∃ x, sumC (bs.take n6) = x := ⟨_, rfl⟩
    obtain ⟨nm, hnm⟩ : ∃ x, numR (bs.drop n6) = x := ⟨_, rfl⟩
    rw [hsm] at hTe hSum hsl hfn
    rw [hnm] at hNum hnl hfn
    have HTe := Lib.hid hTe
    have HSum := Lib.hid hSum
    have HNum := Lib.hid hNum
    have HrB := Lib.hid hrB
    have HFn := Lib.hid hfn
    have hBs : Below w.heap.size w w1.drew := hb1.drew
    have hResD : w1.drew.heap[w.heap.size]? = some (.cells #[.int .u8 0, .slice none 0 0] 40 (0, 0)) := hres
    have HRes2 := Lib.hid hResD
    clear hTe hSum hNum hrM hrB hfn hsm hnm hAM hAB hn6 hn10 hn htl hdl hres hb1 hResD
    by_cases hcmp : nm = sm
    · subst hcmp
      go_wp2_with fail
      refine wp_region_held_drew (S := (fun W => Below w.heap.size w W)) (by kernel_rfl) hBs (fun hHeld => ?_)
      generalize w1.drew = W0 at *
      refine wpAnyH_take (i := 0) (v := ?_) (by simp only [List.getElem?_toArray, List.getElem?_cons_zero]; rfl) (by kernel_rfl) (by kernel_rfl) (by kernel_rfl) (by exact fun _ _ _ h => h) (Or.inl ⟨by rfl, ?_⟩) (by assumption) ?_
      rotate_left
      · intro w hSw; (try dsimp only at hSw); go_simp; (try with_reducible rfl)
      try simp only [Act.put, List.setIfInBounds_toArray, List.set_cons_zero, List.set_cons_succ]
      refine wpAnyH_take (i := 1) (v := ?_) (by simp only [List.getElem?_toArray, List.getElem?_cons_zero, List.getElem?_cons_succ]; rfl) (by kernel_rfl) (by kernel_rfl) (by kernel_rfl) (by exact fun _ _ _ h => h) (Or.inl ⟨by rfl, ?_⟩) (by assumption) ?_
      rotate_left
      · intro w hSw; (try dsimp only at hSw); go_simp; (try with_reducible rfl)
      try simp only [Act.put, List.setIfInBounds_toArray, List.set_cons_zero, List.set_cons_succ]
      refine wpAnyH_take (i := 2) (v := ?_) (by simp only [List.getElem?_toArray, List.getElem?_cons_zero, List.getElem?_cons_succ]; rfl) (by kernel_rfl) (by kernel_rfl) (by kernel_rfl) (by exact fun _ _ _ h => h) (Or.inl ⟨by rfl, ?_⟩) (by assumption) ?_
      rotate_left
      · intro w hSw; (try dsimp only at hSw); go_simp; (try with_reducible rfl)
      try simp only [Act.put, List.setIfInBounds_toArray, List.set_cons_zero, List.set_cons_succ]
      refine wpAnyH_take (i := 5) (v := ?_) (by simp only [List.getElem?_toArray, List.getElem?_cons_zero, List.getElem?_cons_succ]; rfl) (by kernel_rfl) (by kernel_rfl) (by kernel_rfl) (by exact fun _ _ _ h => h) (Or.inl ⟨by rfl, ?_⟩) (by assumption) ?_
      rotate_left
      · intro w hSw; (try dsimp only at hSw); go_simp; (try with_reducible rfl)
      try simp only [Act.put, List.setIfInBounds_toArray, List.set_cons_zero, List.set_cons_succ]
      refine wpAnyH_take (i := 6) (v := ?_) (by simp only [List.getElem?_toArray, List.getElem?_cons_zero, List.getElem?_cons_succ]; rfl) (by kernel_rfl) (by kernel_rfl) (by kernel_rfl) (by exact fun _ _ _ h => h) (Or.inl ⟨by rfl, ?_⟩) (by assumption) ?_
      rotate_left
      · intro w hSw; (try dsimp only at hSw); go_simp; (try with_reducible rfl)
      try simp only [Act.put, List.setIfInBounds_toArray, List.set_cons_zero, List.set_cons_succ]
      refine wpAnyH_take (i := 7) (v := ?_) (by simp only [List.getElem?_toArray, List.getElem?_cons_zero, List.getElem?_cons_succ]; rfl) (by kernel_rfl) (by kernel_rfl) (by kernel_rfl) (by exact fun _ _ _ h => h) (Or.inl ⟨by rfl, ?_⟩) (by assumption) ?_
      rotate_left
      · intro w hSw; (try dsimp only at hSw); go_simp; (try with_reducible rfl)
      try simp only [Act.put, List.setIfInBounds_toArray, List.set_cons_zero, List.set_cons_succ]
      refine wpAnyH_ready (rs := [3]) (by kernel_rfl) (by simp) ?_
      refine AllReadyH.cons (by simp only [List.getElem?_toArray, List.getElem?_cons_zero, List.getElem?_cons_succ]; rfl) (fun K hK => ?_) AllReadyH.nil
      go_simp
      refine hK.out _ _ (hBs.alloc hBs.size _) (fun hHeld => ?_)
      clear hK K
      try simp only [Act.put, List.setIfInBounds_toArray, List.set_cons_zero, List.set_cons_succ]
      refine wpAnyH_ready (rs := [4]) (by kernel_rfl) (by simp) ?_
      refine AllReadyH.cons (by simp only [List.getElem?_toArray, List.getElem?_cons_zero, List.getElem?_cons_succ]; rfl) (fun K hK => ?_) AllReadyH.nil
      go_simp
      refine (HSum.out W0 (HR.out.below (Nat.le_refl _) hBs) (HT.out.below hBs)).mono ?_
      rintro e y0 ⟨rfl, rfl⟩
      go_wp2_with fail
      refine hK.out _ _ (hBs.alloc hBs.size _) (fun hHeld => ?_)
      clear hK K
      try simp only [Act.put, List.setIfInBounds_toArray, List.set_cons_zero, List.set_cons_succ]
      refine wpAnyH_ready (rs := [8]) (by kernel_rfl) (by simp) ?_
      refine AllReadyH.cons (by simp only [List.getElem?_toArray, List.getElem?_cons_zero, List.getElem?_cons_succ]; rfl) (fun K hK => ?_) AllReadyH.nil
      go_simp
      refine (HNum.out _ (HR.out.below (Nat.le_refl _) (hBs.alloc hBs.size (.cells #[.slice (some ad) n6 c] 24)))).mono ?_
      rintro e y1 ⟨rfl, b2⟩
      have hb2 := (hBs.alloc hBs.size (.cells #[.slice (some ad) n6 c] 24)).trans (b2.mono (by simp; exact Nat.le_trans hBs.size (Nat.le_succ _)))
      have HB2 := Lib.hid hb2
      have HRes1 : Hid (y1.heap[w.heap.size]? = some (.cells #[.int .u8 0, .slice none 0 0] 40 (0, 0))) := Lib.hid ((b2.block w.heap.size (by have := (Array.getElem?_eq_some_iff.1 HRes2.out).1; simp; omega)).trans (((Below.refl W0.heap.size W0).alloc (Nat.le_refl _) (.cells #[.slice (some ad) n6 c] 24)).block w.heap.size (Array.getElem?_eq_some_iff.1 HRes2.out).1 |>.trans HRes2.out))
      clear b2
      go_wp2_with fail
      refine hK.out _ _ (hb2) (fun hHeld => ?_)
      clear hK K
      try simp only [Act.put, List.setIfInBounds_toArray, List.set_cons_zero, List.set_cons_succ]
      refine wpAnyH_take (i := 9) (v := ?_) (by simp only [List.getElem?_toArray, List.getElem?_cons_zero, List.getElem?_cons_succ]; rfl) (by kernel_rfl) (by kernel_rfl) (by kernel_rfl) (by exact fun _ _ _ h => h) (Or.inl ⟨by rfl, ?_⟩) (by assumption) ?_
      rotate_left
      · intro w hSw; (try dsimp only at hSw); go_simp; (try with_reducible rfl)
      try simp only [Act.put, List.setIfInBounds_toArray, List.set_cons_zero, List.set_cons_succ]
      refine wpAnyH_done (by kernel_rfl) ?_ _
      obtain ⟨r0, r1⟩ := blkL (W := y1) HRes1.out
      obtain ⟨f0, f1⟩ := frL (W := y1) HRes1.out
      obtain ⟨s0, s1⟩ := blkL (setL (W := y1) HRes1.out (.int .u8 0) (.slice none 0 0))
      obtain ⟨t0, _⟩ := blkL (heap_setCell_same y1 w.heap.size 0 _ _ (.int .u8 0) HRes1.out)
      go_wp2_with fail
      have hE0 : takeE bs = 0 := by
        have h := HTe.out
        rw [if_neg (by rw [Classical.not_not]; exact HFn.out.2 (by first | trivial | rfl))] at h
        exact h
      have HE0 := Lib.hid hE0
      have hd1 : y1.drew.cell? { block := ad.block, off := ad.off + 1 } = some (.int .u8 ((bs.getD 1 default).toNat : Int)) := by
        obtain ⟨ae, e, _, h⟩ := layB_at (HR.out.below (Nat.le_refl _) HB2.out.drew) (k := 1) (by omega)
        obtain rfl : ad = ae := by injection e
        rwa [add_formL ad 0] at h
      have hq1 : (1 : Int) < (bs.length : Int) := by omega
      obtain ⟨kd, hkd⟩ : ∃ k, bs.getD 1 default = k := ⟨_, rfl⟩
      rw [hkd] at hd1
      have HKd := Lib.hid hkd
      have hadw : ad.block ≠ w.heap.size := by omega
      have HCl := Lib.hid (fun (W : World) (hW : Below w.heap.size w W) => codeClone AB n (c - 6) ((bs.drop 6).take n) W (HrB.out W (HR.out.below (Nat.le_refl _) hW)) (by rw [List.length_take, List.length_drop]; omega) (by omega))
      have HBd2 := Lib.hid HB2.out.drew
      clear hkd hE0 s0 s1 t0 r0 r1 f0 f1 hbz
      refine wp_region_held_drew (S := (fun W => W.cell? { block := ad.block, off := ad.off + 1 } = some (.int .u8 (kd.toNat : Int)))) (by kernel_rfl) hd1 (fun hHeld => ?_)
      refine wpAnyH_take (i := 0) (v := ?_) (by simp only [List.getElem?_toArray, List.getElem?_cons_zero]; rfl) (by kernel_rfl) (by kernel_rfl) (by kernel_rfl) (by exact fun _ _ _ h => h) (Or.inl ⟨by rfl, ?_⟩) (by assumption) ?_
      rotate_left
      · intro w hSw; (try dsimp only at hSw); go_simp; (try with_reducible rfl)
      try simp only [Act.put, List.setIfInBounds_toArray, List.set_cons_zero, List.set_cons_succ]
      refine wpAnyH_take (i := 1) (v := ?_) (by simp only [List.getElem?_toArray, List.getElem?_cons_zero, List.getElem?_cons_succ]; rfl) (by kernel_rfl) (by kernel_rfl) (by kernel_rfl) (by exact fun _ _ _ h => h) (Or.inl ⟨by rfl, ?_⟩) (by assumption) ?_
      rotate_left
      · intro w hSw; (try dsimp only at hSw); go_simp; (try with_reducible rfl)
      try simp only [Act.put, List.setIfInBounds_toArray, List.set_cons_zero, List.set_cons_succ]
      refine wpAnyH_take (i := 2) (v := ?_) (by simp only [List.getElem?_toArray, List.getElem?_cons_zero, List.getElem?_cons_succ]; rfl) (by kernel_rfl) (by kernel_rfl) (by kernel_rfl) (by exact fun _ _ _ h => h) (Or.inl ⟨by rfl, ?_⟩) (by assumption) ?_
      rotate_left
      · intro w hSw; (try dsimp only at hSw); go_simp; (try with_reducible rfl)
      try simp only [Act.put, List.setIfInBounds_toArray, List.set_cons_zero, List.set_cons_succ]
      refine wpAnyH_take (i := 3) (v := ?_) (by simp only [List.getElem?_toArray, List.getElem?_cons_zero, List.getElem?_cons_succ]; rfl) (by kernel_rfl) (by kernel_rfl) (by kernel_rfl) (by exact fun _ _ _ h => h) (Or.inl ⟨by rfl, ?_⟩) (by assumption) ?_
      rotate_left
      · intro w hSw; (try dsimp only at hSw); go_simp; (try with_reducible rfl)
      try simp only [Act.put, List.setIfInBounds_toArray, List.set_cons_zero, List.set_cons_succ]
      refine wpAnyH_take (i := 4) (v := ?_) (by simp only [List.getElem?_toArray, List.getElem?_cons_zero, List.getElem?_cons_succ]; rfl) (by kernel_rfl) (by kernel_rfl) (by kernel_rfl) (by exact fun _ _ _ h => h) (Or.inl ⟨by rfl, ?_⟩) (by assumption) ?_
      rotate_left
      · intro w hSw; (try dsimp only at hSw); go_simp; (try with_reducible rfl)
      try simp only [Act.put, List.setIfInBounds_toArray, List.set_cons_zero, List.set_cons_succ]
      refine wpAnyH_take (i := 5) (v := ?_) (by simp only [List.getElem?_toArray, List.getElem?_cons_zero, List.getElem?_cons_succ]; rfl) (by kernel_rfl) (by kernel_rfl) (by kernel_rfl) (by exact fun _ _ _ h => h) (Or.inl ⟨by rfl, ?_⟩) (by assumption) ?_
      rotate_left
      · intro w hSw; (try dsimp only at hSw); go_simp; (try with_reducible rfl)
      try simp only [Act.put, List.setIfInBounds_toArray, List.set_cons_zero, List.set_cons_succ]
      refine wpAnyH_take (i := 8) (v := ?_) (by simp only [List.getElem?_toArray, List.getElem?_cons_zero, List.getElem?_cons_succ]; rfl) (by kernel_rfl) (by kernel_rfl) (by kernel_rfl) (by exact fun _ _ _ h => h) (Or.inl ⟨by rfl, ?_⟩) (by assumption) ?_
      rotate_left
      · intro w hSw; (try dsimp only at hSw); go_simp; (try with_reducible rfl)
      try simp only [Act.put, List.setIfInBounds_toArray, List.set_cons_zero, List.set_cons_succ]
      refine wpAnyH_take (i := 9) (v := ?_) (by simp only [List.getElem?_toArray, List.getElem?_cons_zero, List.getElem?_cons_succ]; rfl) (by kernel_rfl) (by kernel_rfl) (by kernel_rfl) (by exact fun _ _ _ h => h) (Or.inl ⟨by rfl, ?_⟩) (by assumption) ?_
      rotate_left
      · intro w hSw; (try dsimp only at hSw); go_simp; (try with_reducible rfl)
      try simp only [Act.put, List.setIfInBounds_toArray, List.set_cons_zero, List.set_cons_succ]
      refine wpAnyH_ready (rs := [6]) (by kernel_rfl) (by simp) ?_
      refine AllReadyH.cons (by simp only [List.getElem?_toArray, List.getElem?_cons_zero, List.getElem?_cons_succ]; rfl) (fun K hK => ?_) AllReadyH.nil
      go_simp
      refine (HCl.out _ HBd2.out).mono ?_
      rintro e y2 ⟨A2, c2, rfl, hcc2, hrd2, b3, hA2'⟩
      have hA2 : ∀ a, A2 = some a → ¬ a.block = w.heap.size := fun a e q => by have h1 := hA2' a e; have h2 := (Array.getElem?_eq_some_iff.1 HRes1.out).1; have h3 : y1.drew.heap.size = y1.heap.size := rfl; omega
      have hb3 := HBd2.out.trans (b3.mono HBd2.out.size)
      have hres3 : y2.heap[w.heap.size]? = some (.cells #[.int .u8 0, .slice none 0 0] 40 (0, 0)) := (b3.block w.heap.size (Array.getElem?_eq_some_iff.1 HRes1.out).1).trans HRes1.out
      have hd3 : y2.cell? { block := ad.block, off := ad.off + 1 } = some (.int .u8 (kd.toNat : Int)) := (World.cell?_of_block (a := { block := ad.block, off := ad.off + 1 }) (b3.block ad.block (Nat.lt_of_lt_of_le hblk HBd2.out.size))).trans hd1
      have hbd := fun W => run_build (P := Tryd.prog) W 40 #[(0, .int .u8 (kd.toNat : Int)), (1, .slice A2 n c2)] #[.int .u8 (kd.toNat : Int), .slice A2 n c2] (by kernel_rfl)
      obtain ⟨r0, r1⟩ := blkL hres3
      obtain ⟨f0, f1⟩ := frL hres3
      obtain ⟨s0, s1⟩ := blkL (setL hres3 (.int .u8 (kd.toNat : Int)) (.slice A2 n c2))
      obtain ⟨t0, _⟩ := blkL (heap_setCell_same y2 w.heap.size 0 _ _ (.int .u8 (kd.toNat : Int)) hres3)
      have hd2 : ((y2.setCell { block := w.heap.size, off := 0 } (.int .u8 (kd.toNat : Int))).setCell { block := w.heap.size, off := 1 } (.slice A2 n c2)).cell? { block := ad.block, off := ad.off + 1 } = some (.int .u8 (kd.toNat : Int)) := (World.cell?_of_block (Below.heap_setCell _ _ _ _ hadw)).trans ((World.cell?_of_block (Below.heap_setCell _ _ _ _ hadw)).trans hd3)
      have HFin := Lib.hid (belL hb3 (.int .u8 (kd.toNat : Int)) (.slice A2 n c2))
      have hRdF : layB.Rd ((y2.setCell { block := w.heap.size, off := 0 } (.int .u8 (kd.toNat : Int))).setCell { block := w.heap.size, off := 1 } (.slice A2 n c2)) A2 ((bs.drop 6).take n) := hrd2.only (S := fun k => k = w.heap.size) (((Only.refl (fun k => k = w.heap.size) y2).setCell (p := { block := w.heap.size, off := 0 }) (.inl rfl) _).setCell (p := { block := w.heap.size, off := 1 }) (.inl rfl) _) (fun _ a2 e2 => hA2 a2 e2)
      have HRd2 := Lib.hid hRdF
      clear hrd2 b3 hb3 hres3 hRdF
      go_wp2_with fail
      refine hK.out _ _ (hd3) (fun hHeld => ?_)
      clear hK K
      try simp only [Act.put, List.setIfInBounds_toArray, List.set_cons_zero, List.set_cons_succ]
      refine wpAnyH_take (i := 7) (v := ?_) (by simp only [List.getElem?_toArray, List.getElem?_cons_zero, List.getElem?_cons_succ]; rfl) (by kernel_rfl) (by kernel_rfl) (by kernel_rfl) (by exact fun _ _ _ h => h) (Or.inl ⟨by rfl, ?_⟩) (by assumption) ?_
      rotate_left
      · intro w hSw; (try dsimp only at hSw); go_simp; (try with_reducible rfl)
      try simp only [Act.put, List.setIfInBounds_toArray, List.set_cons_zero, List.set_cons_succ]
      refine wpAnyH_ready (rs := [10]) (by kernel_rfl) (by simp) ?_
      refine AllReadyH.cons (by simp only [List.getElem?_toArray, List.getElem?_cons_zero, List.getElem?_cons_succ]; rfl) (fun K hK => ?_) AllReadyH.nil
      go_simp
      refine hK.out _ _ (hd2) (fun hHeld => ?_)
      clear hK K
      try simp only [Act.put, List.setIfInBounds_toArray, List.set_cons_zero, List.set_cons_succ]
      refine wpAnyH_take (i := 11) (v := ?_) (by simp only [List.getElem?_toArray, List.getElem?_cons_zero, List.getElem?_cons_succ]; rfl) (by kernel_rfl) (by kernel_rfl) (by kernel_rfl) (by exact fun _ _ _ h => h) (Or.inl ⟨by rfl, ?_⟩) (by assumption) ?_
      rotate_left
      · intro w hSw; (try dsimp only at hSw); go_simp; (try with_reducible rfl)
      try simp only [Act.put, List.setIfInBounds_toArray, List.set_cons_zero, List.set_cons_succ]
      refine wpAnyH_take (i := 12) (v := ?_) (by simp only [List.getElem?_toArray, List.getElem?_cons_zero, List.getElem?_cons_succ]; rfl) (by kernel_rfl) (by kernel_rfl) (by kernel_rfl) (by exact fun _ _ _ h => h) (Or.inl ⟨by rfl, ?_⟩) (by assumption) ?_
      rotate_left
      · intro w hSw; (try dsimp only at hSw); go_simp; (try with_reducible rfl)
      try simp only [Act.put, List.setIfInBounds_toArray, List.set_cons_zero, List.set_cons_succ]
      refine wpAnyH_done (by kernel_rfl) ?_ _
      go_wp2_with fail
      exact bodyPost_ret (v := .tuple #[.agg #[.int .u8 (kd.toNat : Int), .slice A2 n c2], .int .i64 (n10 : Int), .int .i64 0]) (by simp [results, Tryd.results17, go_sem, s1, t0]) rfl ⟨HFin.out, .inr ⟨HE0.out, A2, c2, by rw [HNn.out, HKd.out, ← HSz.out.2], by rw [HNn.out]; exact hcc2, by rw [HNn.out]; exact HRd2.out, fun x e => Nat.le_trans HBd2.out.size (hA2' x e)⟩⟩
    · have hni : ¬ ((sm : Int) = (nm : Int)) := by omega
      go_wp2_with fail
      refine wp_region_held_drew (S := (fun W => Below w.heap.size w W)) (by kernel_rfl) hBs (fun hHeld => ?_)
      generalize w1.drew = W0 at *
      refine wpAnyH_take (i := 0) (v := ?_) (by simp only [List.getElem?_toArray, List.getElem?_cons_zero]; rfl) (by kernel_rfl) (by kernel_rfl) (by kernel_rfl) (by exact fun _ _ _ h => h) (Or.inl ⟨by rfl, ?_⟩) (by assumption) ?_
      rotate_left
      · intro w hSw; (try dsimp only at hSw); go_simp; (try with_reducible rfl)
      try simp only [Act.put, List.setIfInBounds_toArray, List.set_cons_zero, List.set_cons_succ]
      refine wpAnyH_take (i := 1) (v := ?_) (by simp only [List.getElem?_toArray, List.getElem?_cons_zero, List.getElem?_cons_succ]; rfl) (by kernel_rfl) (by kernel_rfl) (by kernel_rfl) (by exact fun _ _ _ h => h) (Or.inl ⟨by rfl, ?_⟩) (by assumption) ?_
      rotate_left
      · intro w hSw; (try dsimp only at hSw); go_simp; (try with_reducible rfl)
      try simp only [Act.put, List.setIfInBounds_toArray, List.set_cons_zero, List.set_cons_succ]
      refine wpAnyH_take (i := 2) (v := ?_) (by simp only [List.getElem?_toArray, List.getElem?_cons_zero, List.getElem?_cons_succ]; rfl) (by kernel_rfl) (by kernel_rfl) (by kernel_rfl) (by exact fun _ _ _ h => h) (Or.inl ⟨by rfl, ?_⟩) (by assumption) ?_
      rotate_left
      · intro w hSw; (try dsimp only at hSw); go_simp; (try with_reducible rfl)
      try simp only [Act.put, List.setIfInBounds_toArray, List.set_cons_zero, List.set_cons_succ]
      refine wpAnyH_take (i := 5) (v := ?_) (by simp only [List.getElem?_toArray, List.getElem?_cons_zero, List.getElem?_cons_succ]; rfl) (by kernel_rfl) (by kernel_rfl) (by kernel_rfl) (by exact fun _ _ _ h => h) (Or.inl ⟨by rfl, ?_⟩) (by assumption) ?_
      rotate_left
      · intro w hSw; (try dsimp only at hSw); go_simp; (try with_reducible rfl)
      try simp only [Act.put, List.setIfInBounds_toArray, List.set_cons_zero, List.set_cons_succ]
      refine wpAnyH_take (i := 6) (v := ?_) (by simp only [List.getElem?_toArray, List.getElem?_cons_zero, List.getElem?_cons_succ]; rfl) (by kernel_rfl) (by kernel_rfl) (by kernel_rfl) (by exact fun _ _ _ h => h) (Or.inl ⟨by rfl, ?_⟩) (by assumption) ?_
      rotate_left
      · intro w hSw; (try dsimp only at hSw); go_simp; (try with_reducible rfl)
      try simp only [Act.put, List.setIfInBounds_toArray, List.set_cons_zero, List.set_cons_succ]
      refine wpAnyH_take (i := 7) (v := ?_) (by simp only [List.getElem?_toArray, List.getElem?_cons_zero, List.getElem?_cons_succ]; rfl) (by kernel_rfl) (by kernel_rfl) (by kernel_rfl) (by exact fun _ _ _ h => h) (Or.inl ⟨by rfl, ?_⟩) (by assumption) ?_
      rotate_left
      · intro w hSw; (try dsimp only at hSw); go_simp; (try with_reducible rfl)
      try simp only [Act.put, List.setIfInBounds_toArray, List.set_cons_zero, List.set_cons_succ]
      refine wpAnyH_ready (rs := [3]) (by kernel_rfl) (by simp) ?_
      refine AllReadyH.cons (by simp only [List.getElem?_toArray, List.getElem?_cons_zero, List.getElem?_cons_succ]; rfl) (fun K hK => ?_) AllReadyH.nil
      go_simp
      refine hK.out _ _ (hBs.alloc hBs.size _) (fun hHeld => ?_)
      clear hK K
      try simp only [Act.put, List.setIfInBounds_toArray, List.set_cons_zero, List.set_cons_succ]
      refine wpAnyH_ready (rs := [4]) (by kernel_rfl) (by simp) ?_
      refine AllReadyH.cons (by simp only [List.getElem?_toArray, List.getElem?_cons_zero, List.getElem?_cons_succ]; rfl) (fun K hK => ?_) AllReadyH.nil
      go_simp
      refine (HSum.out W0 (HR.out.below (Nat.le_refl _) hBs) (HT.out.below hBs)).mono ?_
      rintro e y0 ⟨rfl, rfl⟩
      go_wp2_with fail
      refine hK.out _ _ (hBs.alloc hBs.size _) (fun hHeld => ?_)
      clear hK K
      try simp only [Act.put, List.setIfInBounds_toArray, List.set_cons_zero, List.set_cons_succ]
      refine wpAnyH_ready (rs := [8]) (by kernel_rfl) (by simp) ?_
      refine AllReadyH.cons (by simp only [List.getElem?_toArray, List.getElem?_cons_zero, List.getElem?_cons_succ]; rfl) (fun K hK => ?_) AllReadyH.nil
      go_simp
      refine (HNum.out _ (HR.out.below (Nat.le_refl _) (hBs.alloc hBs.size (.cells #[.slice (some ad) n6 c] 24)))).mono ?_
      rintro e y1 ⟨rfl, b2⟩
      have hb2 := (hBs.alloc hBs.size (.cells #[.slice (some ad) n6 c] 24)).trans (b2.mono (by simp; exact Nat.le_trans hBs.size (Nat.le_succ _)))
      have HB2 := Lib.hid hb2
      have HRes1 : Hid (y1.heap[w.heap.size]? = some (.cells #[.int .u8 0, .slice none 0 0] 40 (0, 0))) := Lib.hid ((b2.block w.heap.size (by have := (Array.getElem?_eq_some_iff.1 HRes2.out).1; simp; omega)).trans (((Below.refl W0.heap.size W0).alloc (Nat.le_refl _) (.cells #[.slice (some ad) n6 c] 24)).block w.heap.size (Array.getElem?_eq_some_iff.1 HRes2.out).1 |>.trans HRes2.out))
      clear b2
      go_wp2_with fail
      refine hK.out _ _ (hb2) (fun hHeld => ?_)
      clear hK K
      try simp only [Act.put, List.setIfInBounds_toArray, List.set_cons_zero, List.set_cons_succ]
      refine wpAnyH_take (i := 9) (v := ?_) (by simp only [List.getElem?_toArray, List.getElem?_cons_zero, List.getElem?_cons_succ]; rfl) (by kernel_rfl) (by kernel_rfl) (by kernel_rfl) (by exact fun _ _ _ h => h) (Or.inl ⟨by rfl, ?_⟩) (by assumption) ?_
      rotate_left
      · intro w hSw; (try dsimp only at hSw); go_simp; (try with_reducible rfl)
      try simp only [Act.put, List.setIfInBounds_toArray, List.set_cons_zero, List.set_cons_succ]
      refine wpAnyH_done (by kernel_rfl) ?_ _
      obtain ⟨r0, r1⟩ := blkL (W := y1) HRes1.out
      obtain ⟨f0, f1⟩ := frL (W := y1) HRes1.out
      obtain ⟨s0, s1⟩ := blkL (setL (W := y1) HRes1.out (.int .u8 0) (.slice none 0 0))
      obtain ⟨t0, _⟩ := blkL (heap_setCell_same y1 w.heap.size 0 _ _ (.int .u8 0) HRes1.out)
      go_wp2_with fail
      have hE81 : takeE bs = 81 := by
        have h := HTe.out
        rw [if_pos (fun e => hcmp (HFn.out.1 e))] at h
        exact h
      exact bodyPost_ret (v := .tuple #[.agg #[.int .u8 0, .slice none 0 0], .int .i64 0, .int .i64 81]) (by simp [results, Tryd.results17, go_sem, s0, s1]) rfl ⟨belL HB2.out _ _, .inl ⟨by rw [hE81]; decide, none, 0, by rw [hE81]; rfl⟩⟩
end Go.Proofs.YtpmmbbkomikceaaDoor
