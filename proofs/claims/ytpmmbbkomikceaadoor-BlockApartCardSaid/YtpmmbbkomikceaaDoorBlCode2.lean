/- The landed package block: Size, Pack; the library's ContainsFunc and Clone. -/
import Derived.Test.YtpmmbbkomikceaaDoorBlCode
import Derived.OwnWalk
set_option linter.unusedVariables false
namespace Go.Proofs.YtpmmbbkomikceaaDoor
open Go Go.RowKit

theorem allR_mem {zs : List BlZ} {z : BlZ} (h : z ∈ zs) : z.body.bs.length + 10 ≤ (allR zs).length := by
  obtain ⟨a, b, rfl⟩ := List.append_of_mem h
  unfold allR
  rw [List.flatMap_append, List.flatMap_cons, List.length_append, List.length_append, packR_len]
  omega
theorem allR_ge : ∀ (zs : List BlZ), zs.length * 10 ≤ (allR zs).length
  | [] => Nat.zero_le _
  | z :: r => by
    have := allR_ge r
    unfold allR at this ⊢
    rw [List.flatMap_cons, List.length_append, packR_len, List.length_cons]
    omega
set_option maxHeartbeats 8000000 in
set_option maxRecDepth 100000 in
theorem codeLong (z : BlZ) (w : World) (hz : z.body.bs.length ≤ 1048576) :
    Calls Tryd.prog 21 #[z.val] w fun e w' => e = .returned (.bool false) ∧ Below w.heap.size w w' := by
  obtain ⟨k, za, zc, b⟩ := z
  unfold BlZ.val BsZ.val
  dsimp only at hz ⊢
  have hbi : ¬ ((1048576 : Int) < (b.length : Int)) := by omega
  have hb := (Below.refl w.heap.size w).alloc (Nat.le_refl _) (.cells #[.int .u8 (k.toNat : Int), .slice za b.length zc] 40)
  have hbk : (w.alloc (.cells #[.int .u8 (k.toNat : Int), .slice za b.length zc] 40)).heap[w.heap.size]? = some (.cells #[.int .u8 (k.toNat : Int), .slice za b.length zc] 40 (0, 0)) := heap_alloc_new w _
  obtain ⟨s0, s1⟩ := blkL hbk
  clear hbk hz
  go_enter Tryd.func21, Tryd.ntmps21
  go_wp2_with fail
  go_ret
  exact ⟨by simp, hb⟩
set_option maxHeartbeats 8000000 in
set_option maxRecDepth 100000 in
theorem codeIdx (A : Option Addr) (c : Nat) (zs : List BlZ) (w : World) (h : RdL w A zs) (hl : zs.length ≤ 1000000) (hz : ∀ z ∈ zs, z.body.bs.length ≤ 1048576) :
    Calls Tryd.prog 28 #[.slice A zs.length c, .func (.func 21) #[] #[]] w fun e w' => e = .returned (.int .i64 (-1)) ∧ Below w.heap.size w w' := by
  have HRd := Lib.hid h
  have HZ := Lib.hid hz
  clear h hz
  go_enter Tryd.func28, Tryd.ntmps28
  go_wp2_with fail
  go_loopw [8] (fun i wr => ∃ j : Nat, j ≤ zs.length ∧ i = .int .i64 (j : Nat) ∧ Below w.heap.size w wr) (fun i _ => zs.length - (intOf i).toNat)
  case atStart => exact ⟨0, Nat.zero_le _, rfl, Below.refl _ _⟩
  case round =>
    obtain ⟨j, hj, rfl, hbw⟩ := hrel
    by_cases hlt : j < zs.length
    · obtain ⟨ad, rfl, hblk, g0, g1⟩ := layL_at ((HRd.out.below (Nat.le_refl _) hbw)).1 hlt
      have hC := fun W => codeLong (zs.getD j default) W (HZ.out _ (mem_getDL hlt))
      obtain ⟨z, hzz⟩ : ∃ z, zs.getD j default = z := ⟨_, rfl⟩
      rw [hzz] at g0 g1 hC
      obtain ⟨k, za, zc, b⟩ := z
      unfold BlZ.val at hC
      unfold BsZ.val at hC g1
      dsimp only at g0 g1 hC
      have HC := Lib.hid hC
      have hji : (j : Int) < (zs.length : Int) := by omega
      clear hzz hC
      go_wp2_with fail
      refine (HC.out _).mono ?_
      rintro e w1 ⟨rfl, b1⟩
      have HB := Lib.hid (hbw.trans (b1.mono hbw.size))
      clear b1
      go_wp2_with fail
      go_roundw
      case rel => exact ⟨j + 1, by omega, by go_num, HB.out⟩
      case measure => simp [intOf]; omega
    · obtain rfl : j = zs.length := by omega
      go_wp2_with fail
      go_ret
      exact ⟨rfl, hbw⟩
set_option maxHeartbeats 8000000 in
set_option maxRecDepth 100000 in
theorem codeHas (A : Option Addr) (c : Nat) (zs : List BlZ) (w : World) (h : RdL w A zs) (hl : zs.length ≤ 1000000) (hz : ∀ z ∈ zs, z.body.bs.length ≤ 1048576) :
    Calls Tryd.prog 20 #[.slice A zs.length c, .func (.func 21) #[] #[]] w fun e w' => e = .returned (.bool false) ∧ Below w.heap.size w w' := by
  have HI := Lib.hid (codeIdx A c zs w h hl hz)
  clear h hz
  go_enter Tryd.func20, Tryd.ntmps20
  go_wp2_with fail
  refine HI.out.mono ?_
  rintro e w1 ⟨rfl, b1⟩
  go_wp2_with fail
  go_ret
  exact ⟨rfl, b1⟩
set_option maxHeartbeats 8000000 in
set_option maxRecDepth 100000 in
theorem codeSize (A : Option Addr) (c : Nat) (zs : List BlZ) (w : World) (h : RdL w A zs) (hl : zs.length ≤ 1000000) (hn : (allR zs).length ≤ 1000000) :
    Calls Tryd.prog 14 #[.slice A zs.length c] w fun e w' => e = .returned (.int .i64 ((allR zs).length : Nat)) ∧ Below w.heap.size w w' := by
  have HRd := Lib.hid h
  have HN := Lib.hid hn
  clear h hn
  go_enter Tryd.func14, Tryd.ntmps14
  go_wp2_with fail
  go_loopw [3, 8] (fun s i wr => ∃ (k n : Nat), k ≤ zs.length ∧ s = .int .i64 (n : Nat) ∧ i = .int .i64 (k : Nat) ∧ n = (allR (zs.take k)).length ∧ Below w.heap.size w wr) (fun _ i _ => zs.length - (intOf i).toNat)
  case atStart => exact ⟨0, 0, Nat.zero_le _, rfl, rfl, rfl, Below.refl _ _⟩
  case round =>
    obtain ⟨k, n, hk, rfl, rfl, hnk, hbw⟩ := hrel
    by_cases hlt : k < zs.length
    · obtain ⟨ad, rfl, hblk, g0, g1⟩ := layL_at ((HRd.out.below (Nat.le_refl _) hbw)).1 hlt
      have hsu := congrArg List.length (allR_succ zs k hlt)
      have htk := allR_take zs (k + 1)
      rw [List.length_append, packR_len, ← hnk] at hsu
      obtain ⟨z, hzz⟩ : ∃ z, zs.getD k default = z := ⟨_, rfl⟩
      rw [hzz] at g0 g1 hsu
      obtain ⟨kd, za, zc, b⟩ := z
      unfold BsZ.val at g1
      dsimp only at g0 g1 hsu
      have hki : (k : Int) < (zs.length : Int) := by omega
      have hq := HN.out
      have hnb : n + b.length ≤ 999990 := by omega
      have hb1 := (Below.refl wr.heap.size wr).alloc (Nat.le_refl _) (.cells #[.int .u8 (kd.toNat : Int), .slice za b.length zc] 40)
      have hbk : (wr.alloc (.cells #[.int .u8 (kd.toNat : Int), .slice za b.length zc] 40)).heap[wr.heap.size]? = some (.cells #[.int .u8 (kd.toNat : Int), .slice za b.length zc] 40 (0, 0)) := heap_alloc_new wr _
      obtain ⟨s0, s1⟩ := blkL hbk
      have HB := Lib.hid (hbw.trans (hb1.mono hbw.size))
      have HSu := Lib.hid hsu
      have HNk := Lib.hid hnk
      clear hzz hsu htk hq hb1 hbk hnk
      go_wp2_with fail
      go_roundw
      case rel => exact ⟨k + 1, n + (b.length + 10), by omega, by go_num, by go_num, HSu.out.symm, HB.out⟩
      case measure => simp [intOf]; omega
    · obtain rfl : k = zs.length := by omega
      rw [List.take_length] at hnk
      have HNk := Lib.hid hnk
      clear hnk HN
      go_wp2_with fail
      go_ret
      exact ⟨by rw [← HNk.out]; rfl, hbw⟩
set_option maxHeartbeats 8000000 in
set_option maxRecDepth 100000 in
theorem codePack (A : Option Addr) (c : Nat) (zs : List BlZ) (w : World) (hr : RdL w A zs) (hc : zs.length ≤ c) (hl : zs.length ≤ 100000) (hn : (allR zs).length ≤ 900000) (hT : ShT w) :
    Calls Tryd.prog 12 #[.slice A zs.length c] w fun e w' => ∃ v, e = .returned (.tuple #[v, .int .i64 0]) ∧ layB.Row 5 w' w.heap.size v (allR zs).length (allR zs) ∧ Below w.heap.size w w' := by
  have HR := Lib.hid hr
  have HT := Lib.hid hT
  have HN := Lib.hid hn
  have HH := Lib.hid (codeHas A c zs w hr (by omega) (fun z hz => by have := allR_mem hz; omega))
  clear hr hT
  go_enter Tryd.func12, Tryd.ntmps12
  go_wp2_with fail
  refine HH.out.mono ?_
  rintro e w1 ⟨rfl, b1⟩
  have HS := Lib.hid (codeSize A c zs w1 (HR.out.below (Nat.le_refl _) b1) (by omega) (by omega))
  have HB1 := Lib.hid b1
  clear b1 HH
  obtain ⟨q, hq⟩ : ∃ q, (allR zs).length = q := ⟨_, rfl⟩
  rw [hq] at HS hn
  have HQ := Lib.hid hq
  clear hq
  go_wp2_with fail
  refine HS.out.mono ?_
  rintro e w2 ⟨rfl, b2⟩
  have HB2 := Lib.hid (HB1.out.trans (b2.mono HB1.out.size))
  clear b2 HS
  have hinfo : (Tryd.prog.info? 5).map (fun i => (i.zero, i.size, i.bytes)) = some (some (.int .u8 0), 1, 1) := by kernel_rfl
  obtain ⟨iB, hi, hz0, hz1, hz2⟩ := info_parts hinfo
  clear hinfo
  go_wp2_with (at_make; refine wpList_make_own _ rfl _ _ 24 rfl w.heap.size 5 iB (.int .u8 0) 1 Tryd.underlying24 hi hz0 hz1 .i64 .i64 (q : Int) q rfl rfl rfl (by rw [hz2]; omega) (by unfold maxLen; omega) HB2.out.size ?_)
  intro w3 r3 g3
  have HR3 : Hid (layB.Row 5 w3 w.heap.size (.slice (some ⟨w2.heap.size, 0, none⟩) 0 q) 0 []) := Lib.hid r3
  have HB3 := Lib.hid (HB2.out.grown g3 HB2.out.size (fun g hg => by cases hg))
  clear r3 g3 hi hz0 hz1 hz2
  go_wp2_with fail
  go_loopw [4, 14] (fun v i wr => ∃ (k n : Nat), k ≤ zs.length ∧ i = .int .i64 (k : Nat) ∧ n = (allR (zs.take k)).length ∧ layB.Row 5 wr w.heap.size v n (allR (zs.take k)) ∧ Below w.heap.size w wr) (fun _ i _ => zs.length - (intOf i).toNat)
  case atStart => exact ⟨0, 0, Nat.zero_le _, rfl, rfl, HR3.out, HB3.out⟩
  case round =>
    obtain ⟨k, n, hk, rfl, hnk, hrow, hbw⟩ := hrel
    obtain ⟨AV, cV, rfl, _, _, _, _⟩ := hrow.rd
    by_cases hlt : k < zs.length
    · obtain ⟨ad, rfl, hblk, g0, g1⟩ := layL_at ((HR.out.below (Nat.le_refl _) hbw)).1 hlt
      have hok := HR.out.2 _ (mem_getDL hlt)
      have hsu := allR_succ zs k hlt
      have hsl := congrArg List.length hsu
      have htk := allR_take zs (k + 1)
      rw [List.length_append, packR_len, ← hnk] at hsl
      obtain ⟨z, hzz⟩ : ∃ z, zs.getD k default = z := ⟨_, rfl⟩
      rw [hzz] at g0 g1 hsu hok hsl
      have hnb : n + z.body.bs.length + 10 ≤ 900000 := by rw [HQ.out] at htk; omega
      obtain ⟨kd, za, zc, b⟩ := z
      have hb1 := (Below.refl wr.heap.size wr).alloc (Nat.le_refl _) (.cells #[.int .u8 (kd.toNat : Int), .slice za b.length zc] 40)
      have hbk : (wr.alloc (.cells #[.int .u8 (kd.toNat : Int), .slice za b.length zc] 40)).heap[wr.heap.size]? = some (.cells #[.int .u8 (kd.toNat : Int), .slice za b.length zc] 40 (0, 0)) := heap_alloc_new wr _
      obtain ⟨s0, s1⟩ := blkL hbk
      have hL := codeLay w _ n (.slice AV n cV) (allR (zs.take k)) ⟨kd, za, zc, b⟩ (hbw.trans (hb1.mono hbw.size)) (hrow.below hb1) hok (by omega) HT.out
      rw [← hsu] at hL
      unfold BlZ.val at hL
      unfold BsZ.val at g1 hL
      dsimp only at g0 g1 hL hsl hnb
      have hki : (k : Int) < (zs.length : Int) := by omega
      have HL := Lib.hid hL
      have HSl := Lib.hid hsl
      clear hzz hsu htk hb1 hbk hnk hok hrow hL hsl hbw
      go_wp2_with fail
      refine HL.out.mono ?_
      rintro e w4 ⟨v4, rfl, r4, b4⟩
      have HR4 := Lib.hid r4
      have HB4 := Lib.hid b4
      clear r4 b4 s0 s1 HL
      go_wp2_with fail
      go_roundw
      case rel => exact ⟨k + 1, n + (b.length + 10), by omega, by go_num, HSl.out.symm, HR4.out, HB4.out⟩
      case measure => simp [intOf]; omega
    · obtain rfl : k = zs.length := by omega
      rw [List.take_length] at hnk hrow
      have HRow := Lib.hid hrow
      have HNk := Lib.hid hnk
      have HBw := Lib.hid hbw
      clear hnk hrow hbw
      go_wp2_with fail
      exact bodyPost_ret (v := .tuple #[.slice AV n cV, .int .i64 0]) (by simp [results, Tryd.results12, go_sem]) rfl ⟨_, rfl, by have := HRow.out; rwa [HNk.out] at this ⊢, HBw.out⟩
end Go.Proofs.YtpmmbbkomikceaaDoor
