/- The document's examples of layer 8; small. -/
import Derived.Test.YtpmmbbkomikceaaDoorBlSpec
set_option linter.unusedVariables false
namespace Go.Proofs.YtpmmbbkomikceaaDoor
open Go Go.RowKit

theorem aw_sum : sumC [49, 50, 51, 52, 53, 54, 55, 56, 57] = 3421780262 := by kernel_rfl
theorem allR_one (z : BlZ) : allR [z] = packR z.kind z.body.bs := by simp [allR]
theorem pack_aw (A : Option Addr) (c : Nat) : (allR [⟨7, ⟨A, c, [97]⟩⟩]).length = 11 ∧ (allR [⟨7, ⟨A, c, [97]⟩⟩]).take 7 = [203, 7, 0, 0, 0, 1, 97] := by
  rw [allR_one]
  exact ⟨packR_len _ _, by show (packR 7 [97]).take 7 = _; kernel_rfl⟩
set_option maxHeartbeats 8000000 in
set_option maxRecDepth 100000 in
theorem awake_any (C : BlSpec) (w : World) (hT : ShT w) : Calls Tryd.prog 8 #[] w fun e w' => e = .returned (.bool true) ∧ Below w.heap.size w w' := by
  have hbd := fun W => run_build (P := Tryd.prog) W 40 #[(0, .int .u8 7), (1, .slice (some ⟨w.heap.size, 0, none⟩) 1 1)] #[.int .u8 7, .slice (some ⟨w.heap.size, 0, none⟩) 1 1] (by kernel_rfl)
  have hcv := conv_const w #[.int .u8 97] 1 1
  have hrm := rd_mark w #[.int .u8 97] [97] 5 (1, 2) rfl
  have hb1 := (Below.refl w.heap.size w).alloc (Nat.le_refl _) (.cells #[.int .u8 97] 5 (1, 2))
  have hrl : RdL ((w.alloc (.cells #[.int .u8 97] 5 (1, 2))).alloc (.cells #[.int .u8 7, .slice (some ⟨w.heap.size, 0, none⟩) 1 1] 40)) (some ⟨w.heap.size + 1, 0, none⟩) [⟨7, ⟨some ⟨w.heap.size, 0, none⟩, 1, [97]⟩⟩] := by
    have h1 := LayG.Rd.lit (L := layL) (E := 40) (w.alloc (.cells #[.int .u8 97] 5 (1, 2))) #[.int .u8 7, .slice (some ⟨w.heap.size, 0, none⟩) 1 1] [⟨7, ⟨some ⟨w.heap.size, 0, none⟩, 1, [97]⟩⟩] rfl (by simp [maxLen])
    rw [show (w.alloc (.cells #[.int .u8 97] 5 (1, 2))).heap.size = w.heap.size + 1 from by simp] at h1
    refine ⟨h1, fun z hz => ?_⟩
    rw [List.mem_singleton.1 hz]
    exact ⟨Nat.le_refl _, hrm.below (Nat.le_refl _) ((Below.refl _ _).alloc (Nat.le_refl _) _)⟩
  have hb2 := hb1.alloc (by simp) (.cells #[.int .u8 7, .slice (some ⟨w.heap.size, 0, none⟩) 1 1] 40)
  obtain ⟨hpl, hpt⟩ := pack_aw (some ⟨w.heap.size, 0, none⟩) 1
  have hP := C.pack_ (some ⟨w.heap.size + 1, 0, none⟩) 1 _ _ hrl (Nat.le_refl _) (by show 1 ≤ 1000; decide) (by rw [hpl]; decide) (hT.below hb2)
  rw [hpl] at hP
  have HP := Lib.hid hP
  have HB2 := Lib.hid hb2
  have HTab := Lib.hid hT
  have HPt := Lib.hid hpt
  have HPl := Lib.hid hpl
  clear hrm hb1 hrl hb2 hP hpl hpt hT
  go_enter Tryd.func8, Tryd.ntmps8
  go_wp2_with fail
  refine HP.out.mono ?_
  rintro e x1 ⟨v, rfl, r1, b1⟩
  have HB3 := Lib.hid (HB2.out.trans (b1.mono HB2.out.size))
  obtain ⟨A1, c1, rfl, hc1, hrd1, _, _⟩ := r1.rd
  have hc7 : (7 : Int) ≤ (c1 : Int) := by have := r1.len; omega
  have HRd := Lib.hid hrd1
  clear r1 b1 hbd hcv hrd1 HP
  have hcv1 := conv_const x1 #[.int .u8 49, .int .u8 50, .int .u8 51, .int .u8 52] 4 4
  have hcv2 := conv_const (x1.alloc (.cells #[.int .u8 49, .int .u8 50, .int .u8 51, .int .u8 52] 5 (4, 5))) #[.int .u8 53, .int .u8 54, .int .u8 55, .int .u8 56, .int .u8 57] 5 5
  have hs1 : (x1.alloc (.cells #[.int .u8 49, .int .u8 50, .int .u8 51, .int .u8 52] 5 (4, 5))).heap.size = x1.heap.size + 1 := by simp
  rw [hs1] at hcv2
  have hm1 := rd_mark x1 #[.int .u8 49, .int .u8 50, .int .u8 51, .int .u8 52] [49, 50, 51, 52] 5 (4, 5) rfl
  have hm2 := rd_mark (x1.alloc (.cells #[.int .u8 49, .int .u8 50, .int .u8 51, .int .u8 52] 5 (4, 5))) #[.int .u8 53, .int .u8 54, .int .u8 55, .int .u8 56, .int .u8 57] [53, 54, 55, 56, 57] 5 (5, 6) rfl
  rw [hs1] at hm2
  have hz1 : BsZ.ok ((x1.alloc (.cells #[.int .u8 49, .int .u8 50, .int .u8 51, .int .u8 52] 5 (4, 5))).alloc (.cells #[.int .u8 53, .int .u8 54, .int .u8 55, .int .u8 56, .int .u8 57] 5 (5, 6))) ⟨some ⟨x1.heap.size, 0, none⟩, 4, [49, 50, 51, 52]⟩ := ⟨Nat.le_refl _, hm1.below (Nat.le_refl _) ((Below.refl _ _).alloc (Nat.le_refl _) _)⟩
  have hlit := lit_two _ _ ⟨some ⟨x1.heap.size + 1, 0, none⟩, 5, [53, 54, 55, 56, 57]⟩ hz1 ⟨Nat.le_refl _, hm2⟩
  rw [show ((x1.alloc (.cells #[.int .u8 49, .int .u8 50, .int .u8 51, .int .u8 52] 5 (4, 5))).alloc (.cells #[.int .u8 53, .int .u8 54, .int .u8 55, .int .u8 56, .int .u8 57] 5 (5, 6))).heap.size = x1.heap.size + 2 from by simp] at hlit
  have hb4 := ((HB3.out.alloc HB3.out.size (.cells #[.int .u8 49, .int .u8 50, .int .u8 51, .int .u8 52] 5 (4, 5))).alloc (Nat.le_trans HB3.out.size (by simp)) (.cells #[.int .u8 53, .int .u8 54, .int .u8 55, .int .u8 56, .int .u8 57] 5 (5, 6))).alloc (Nat.le_trans HB3.out.size (by simp; omega)) (.cells #[.slice (some ⟨x1.heap.size, 0, none⟩) 4 4, .slice (some ⟨x1.heap.size + 1, 0, none⟩) 5 5] 24)
  have hS := C.sum_ (some ⟨x1.heap.size + 2, 0, none⟩) 2 _ _ hlit (Nat.le_refl _) (by show 2 ≤ 1000; decide) (by show 9 ≤ 500000; decide) (HTab.out.below hb4)
  rw [show sumC (catS [⟨some ⟨x1.heap.size, 0, none⟩, 4, [49, 50, 51, 52]⟩, ⟨some ⟨x1.heap.size + 1, 0, none⟩, 5, [53, 54, 55, 56, 57]⟩]) = 3421780262 from aw_sum] at hS
  have HS := Lib.hid hS
  have HB4 := Lib.hid hb4
  clear hm1 hm2 hz1 hlit hS hb4 hs1
  go_wp2_with fail
  refine HS.out.mono ?_
  rintro e x2 ⟨rfl, b2⟩
  have hb5 := HB4.out.trans (b2.mono HB4.out.size)
  have hbx : Below x1.heap.size x1 x2 := ((((Below.refl x1.heap.size x1).alloc (Nat.le_refl _) (.cells #[.int .u8 49, .int .u8 50, .int .u8 51, .int .u8 52] 5 (4, 5))).alloc (by simp) (.cells #[.int .u8 53, .int .u8 54, .int .u8 55, .int .u8 56, .int .u8 57] 5 (5, 6))).alloc (by simp; omega) (.cells #[.slice (some ⟨x1.heap.size, 0, none⟩) 4 4, .slice (some ⟨x1.heap.size + 1, 0, none⟩) 5 5] 24)).trans (b2.mono (by simp; omega))
  have hcv3 := conv_rd (l := 7) (c := c1) ((HRd.out.below (Nat.le_refl _) hbx).take 7) (by rw [List.length_take, HPl.out]; rfl)
  rw [HPt.out] at hcv3
  have HB5 := Lib.hid hb5
  clear hb5 hbx b2 hcv1 hcv2 HS
  go_wp2_with fail
  go_ret
  exact ⟨rfl, HB5.out⟩
set_option maxHeartbeats 8000000 in
set_option maxRecDepth 100000 in
theorem small_any (A : Option Addr) (c : Nat) (zs : List BlZ) (w : World) (hr : RdL w A zs) (hc : zs.length ≤ c) :
    Calls Tryd.prog 11 #[.slice A zs.length c] w fun e w' => e = .returned (.bool (decide (zs.length ≤ 20 ∧ ∀ z ∈ zs, z.body.bs.length ≤ 500))) ∧ w = w' := by
  have HR := Lib.hid hr
  clear hr
  go_enter Tryd.func11, Tryd.ntmps11
  by_cases hl : 20 < zs.length
  · have hli : (20 : Int) < (zs.length : Int) := by omega
    have hne : ¬ (zs.length ≤ 20 ∧ ∀ z ∈ zs, z.body.bs.length ≤ 500) := fun h => by omega
    have HNe := Lib.hid hne
    clear hne
    go_wp2_with fail
    go_ret
    exact ⟨by rw [decide_eq_false HNe.out]; rfl, rfl⟩
  · have hli : ¬ ((20 : Int) < (zs.length : Int)) := by omega
    have hld : decide ((20 : Int) < (zs.length : Int)) = false := decide_eq_false hli
    go_wp2_with fail
    go_loopw [3] (fun i wr => ∃ k : Nat, k ≤ zs.length ∧ i = .int .i64 (k : Nat) ∧ (∀ z ∈ zs.take k, z.body.bs.length ≤ 500) ∧ w = wr) (fun i _ => zs.length - (intOf i).toNat)
    case atStart => exact ⟨0, Nat.zero_le _, rfl, fun z hz => by simp at hz, rfl⟩
    case round =>
      obtain ⟨k, hk, rfl, hall, rfl⟩ := hrel
      have HAll := Lib.hid hall
      clear hall
      by_cases hlt : k < zs.length
      · obtain ⟨ad, rfl, hblk, h0, h1⟩ := layL_at HR.out.1 hlt
        have hta : zs.take (k + 1) = zs.take k ++ [zs.getD k default] := by rw [List.take_succ_eq_append_getElem hlt, List.getD_eq_getElem?_getD, List.getElem?_eq_getElem hlt]; rfl
        have hmem := mem_getDL hlt
        obtain ⟨z, hz⟩ : ∃ z, zs.getD k default = z := ⟨_, rfl⟩
        rw [hz] at h0 h1 hta hmem
        obtain ⟨kd, za, zc, zb⟩ := z
        unfold BsZ.val at h1
        dsimp only at h0 h1
        have hki : (k : Int) < (zs.length : Int) := by omega
        by_cases hbg : 500 < zb.length
        · have hbi : (500 : Int) < (zb.length : Int) := by omega
          have hne : ¬ (zs.length ≤ 20 ∧ ∀ z ∈ zs, z.body.bs.length ≤ 500) := fun h => by
            have := h.2 _ hmem
            have h3 : zb.length ≤ 500 := this
            omega
          have HNe := Lib.hid hne
          clear hne hz hta hmem
          go_wp2_with fail
          go_ret
          exact ⟨by rw [decide_eq_false HNe.out]; rfl, rfl⟩
        · have hbi : ¬ ((500 : Int) < (zb.length : Int)) := by omega
          have hall2 : ∀ y ∈ zs.take (k + 1), y.body.bs.length ≤ 500 := fun y hy => by
            rw [hta] at hy
            rcases List.mem_append.1 hy with h | h
            · exact HAll.out y h
            · rw [List.mem_singleton.1 h]; show zb.length ≤ 500; omega
          have HAll2 := Lib.hid hall2
          clear hz hta hall2 hmem
          go_wp2_with fail
          go_roundw
          case rel => exact ⟨k + 1, by omega, by go_num, HAll2.out, by first | rfl | trivial⟩
          case measure => simp [intOf]; omega
      · obtain rfl : k = zs.length := by omega
        have hyes : zs.length ≤ 20 ∧ ∀ z ∈ zs, z.body.bs.length ≤ 500 := ⟨by omega, by have := HAll.out; rwa [List.take_length] at this⟩
        have HYes := Lib.hid hyes
        clear hyes
        go_wp2_with fail
        go_ret
        exact ⟨by rw [decide_eq_true HYes.out]; rfl, rfl⟩
end Go.Proofs.YtpmmbbkomikceaaDoor
