/- The document's own Scan of blocks. -/
import Derived.Test.YtpmmbbkomikceaaDoorBlTake
import Derived.Test.YtpmmbbkomikceaaDoorBlSame
set_option linter.unusedVariables false
namespace Go.Proofs.YtpmmbbkomikceaaDoor
open Go Go.RowKit

theorem takeE_len {bs : List UInt8} (h : takeE bs = 0) : lenR bs + 10 ≤ bs.length := by
  unfold takeE at h
  repeat' split at h
  all_goals first | omega | cases h
/-- The blocks with which bytes begin, and how many bytes they have. -/
def scanR (bs : List UInt8) : List (UInt8 × List UInt8) × Nat :=
  if h : takeE bs = 0 then
    ((bs.getD 1 default, (bs.drop 6).take (lenR bs)) :: (scanR (bs.drop (lenR bs + 10))).1, lenR bs + 10 + (scanR (bs.drop (lenR bs + 10))).2)
  else ([], 0)
termination_by bs.length
decreasing_by
  all_goals
    have := takeE_len h
    rw [List.length_drop]
    omega
theorem scanR_ok {bs : List UInt8} (h : takeE bs = 0) : scanR bs = ((bs.getD 1 default, (bs.drop 6).take (lenR bs)) :: (scanR (bs.drop (lenR bs + 10))).1, lenR bs + 10 + (scanR (bs.drop (lenR bs + 10))).2) := by
  rw [scanR, dif_pos h]
theorem scanR_no {bs : List UInt8} (h : takeE bs ≠ 0) : scanR bs = ([], 0) := by
  rw [scanR, dif_neg h]
theorem typL : TypG Tryd.prog 29 40 layL := by
  refine ⟨by kernel_rfl, ?_⟩
  have h : (Tryd.prog.info? 40).map (fun i => (i.zero, i.size, i.bytes)) = some (some (.agg #[.int .u8 0, .slice none 0 0]), 2, 32) := by kernel_rfl
  cases hi : Tryd.prog.info? 40 with
  | none => rw [hi] at h; cases h
  | some i =>
    rw [hi] at h
    simp only [Option.map_some, Option.some.injEq, Prod.mk.injEq] at h
    exact ⟨i, _, rfl, h.1, h.2.1, by rw [h.2.2]; decide, rfl⟩
set_option maxHeartbeats 8000000 in
set_option maxRecDepth 100000 in
theorem refScan_any (A : Option Addr) (c : Nat) (bs : List UInt8) (w : World) (hr : layB.Rd w A bs) (hc : bs.length ≤ c) (hl : bs.length ≤ 900000) :
    Calls Tryd.prog 19 #[.slice A bs.length c] w fun e w' => ∃ (D : Option Addr) (d : Nat) (zs : List BlZ), e = .returned (.tuple #[.slice D zs.length d, .int .i64 ((scanR bs).2 : Nat)]) ∧ zs.length ≤ d ∧ zs.length ≤ bs.length ∧ RdL w' D zs ∧ zs.map pairL = (scanR bs).1 ∧ Below w.heap.size w w' := by
  have HR := Lib.hid hr
  clear hr
  go_enter Tryd.func19, Tryd.ntmps19
  go_wp2_with fail
  go_loopw [4, 5] (fun v i wr => ∃ (at1 : Nat) (zs : List BlZ), i = .int .i64 (at1 : Nat) ∧ at1 ≤ bs.length ∧ zs.length ≤ at1 ∧ layL.Row 40 wr w.heap.size v zs.length zs ∧ (∀ z ∈ zs, z.body.ok w) ∧
    scanR bs = (zs.map pairL ++ (scanR (bs.drop at1)).1, at1 + (scanR (bs.drop at1)).2) ∧ Below w.heap.size w wr) (fun _ i _ => bs.length - (intOf i).toNat)
  case atStart => exact ⟨0, [], rfl, Nat.zero_le _, Nat.zero_le _, LayG.Row.nil _ _, (fun z hz => by cases hz), by simp, Below.refl _ _⟩
  case round =>
    obtain ⟨at1, zs, rfl, ha, hz, hrow, hok, hsc, hbw⟩ := hrel
    obtain ⟨AV, cV, rfl, hcV, hrdV, _, _⟩ := hrow.rd
    have HRow := Lib.hid hrow
    have HOk := Lib.hid hok
    have HSc := Lib.hid hsc
    have HBw := Lib.hid hbw
    have hrA := rd_from (HR.out.below (Nat.le_refl _) hbw) hc ha
    have hsl := fun W => slice_fromB W A bs.length c at1 ha
    have hT := refTake_any (fromA A c at1) (c - at1) (bs.drop at1) wr hrA (by rw [List.length_drop]; omega) (by rw [List.length_drop]; omega)
    rw [List.length_drop] at hT
    obtain ⟨AT, hAT⟩ : ∃ X, fromA A c at1 = X := ⟨_, rfl⟩
    rw [hAT] at hsl hT
    have HT := Lib.hid hT
    have HAT := Lib.hid hAT
    have HRdV := Lib.hid hrdV
    clear hT hAT hrow hok hsc hbw hrA hrdV
    go_wp2_with fail
    refine HT.out.mono ?_
    rintro e w2 (⟨hne, rfl, b2⟩ | ⟨he, ⟨a, cc, rfl, hlc, hrb⟩, b2⟩)
    · have hni : ¬ ((takeE (bs.drop at1) : Int) = 0) := by omega
      have hs2 := HSc.out
      rw [scanR_no hne] at hs2
      have HS2 := Lib.hid hs2
      have HB2 := Lib.hid (HBw.out.trans (b2.mono HBw.out.size))
      have hfin : ∀ o : Obj, RdL (w2.alloc o) AV zs ∧ Below w.heap.size w (w2.alloc o) := fun o => by
        have hb3 := (b2.alloc b2.size o)
        exact ⟨⟨HRdV.out.below (Nat.le_refl _) hb3, fun z hz => (HOk.out z hz).below (Nat.le_refl _) (HB2.out.alloc HB2.out.size o)⟩, HB2.out.alloc HB2.out.size o⟩
      have HFin := Lib.hid hfin
      obtain ⟨q, hq⟩ : ∃ q, takeE (bs.drop at1) = q := ⟨_, rfl⟩
      rw [hq] at hni ⊢
      clear hne hs2 b2 hq hfin
      go_wp2_with fail
      exact bodyPost_ret (v := .tuple #[.slice AV zs.length cV, .int .i64 (at1 : Int)]) (by simp [results, Tryd.results19, go_sem]) rfl ⟨AV, cV, zs, by rw [HS2.out]; rfl, hcV, by omega, (HFin.out _).1, by rw [HS2.out]; simp, (HFin.out _).2⟩
    · have hlen := takeE_len he
      rw [List.length_drop] at hlen
      have hs2 := HSc.out
      rw [scanR_ok he] at hs2
      obtain ⟨n, hn⟩ : ∃ n, lenR (bs.drop at1) = n := ⟨_, rfl⟩
      rw [hn] at hlen hs2 hlc hrb ⊢
      obtain ⟨kd, hkd⟩ : ∃ k, (bs.drop at1).getD 1 default = k := ⟨_, rfl⟩
      rw [hkd] at hs2 ⊢
      obtain ⟨bd, hbd⟩ : ∃ l, ((bs.drop at1).drop 6).take n = l := ⟨_, rfl⟩
      have hbl : bd.length = n := by rw [← hbd, List.length_take, List.length_drop, List.length_drop]; omega
      rw [hbd] at hs2
      have HBd2 := Lib.hid hbd
      rw [List.drop_drop] at hs2
      have HS2 := Lib.hid hs2
      have HB2 := Lib.hid (HBw.out.trans (b2.mono HBw.out.size))
      have HRow2 := Lib.hid (HRow.out.only (S := NoB) (Below.only b2) (fun _ _ h => h))
      have HOk2 := HOk
      have hrb0 := hrb w (by rw [← HAT.out]; exact rd_from HR.out hc ha)
      rw [HBd2.out] at hrb0
      have hrb := hrb w2 (by rw [← HAT.out]; exact rd_from (HR.out.below (Nat.le_refl _) HB2.out) hc ha)
      rw [HBd2.out] at hrb
      have HRb0 := Lib.hid hrb0
      have HRb := Lib.hid hrb
      have HBl := Lib.hid hbl
      have hsm : zs.length + 1 ≤ 1000000 := by omega
      have hai : (at1 : Int) + ((n + 10 : Nat) : Int) ≤ 900000 := by omega
      clear he hs2 hn hkd hbd b2 hrb hrb0 hbl HRow HRdV
      have hlitR : ∀ (W : World), layB.Rd W a bd → RdL (W.alloc (.cells #[.int .u8 (kd.toNat : Int), .slice a n cc] 40)) (some ⟨W.heap.size, 0, none⟩) [⟨kd, a, cc, bd⟩] := fun W hW => by
        refine ⟨LayG.Rd.lit (L := layL) (E := 40) W _ [⟨kd, a, cc, bd⟩] (by rw [← HBl.out]; rfl) (by simp [maxLen]), fun z hz => ?_⟩
        rw [List.mem_singleton.1 hz]
        exact ⟨by show bd.length ≤ cc; rw [HBl.out]; exact hlc, hW.below (Nat.le_refl _) ((Below.refl _ _).alloc (Nat.le_refl _) _)⟩
      have HLit := Lib.hid hlitR
      have hb3 := (Below.refl w2.heap.size w2).alloc (Nat.le_refl _) (.cells #[.int .u8 (kd.toNat : Int), .slice a n cc] 40)
      have hrow3 := HRow2.out.only (S := NoB) (Below.only hb3) (fun _ _ h => h)
      have hb4 := hb3.alloc (by simp) (.cells #[.int .u8 (kd.toNat : Int), .slice a n cc] 40)
      have hrow4 := HRow2.out.only (S := NoB) (Below.only hb4) (fun _ _ h => h)
      have hl4 := HLit.out (w2.alloc (.cells #[.int .u8 (kd.toNat : Int), .slice a n cc] 40)) (HRb.out.below (Nat.le_refl _) hb3)
      rw [show (w2.alloc (.cells #[.int .u8 (kd.toNat : Int), .slice a n cc] 40)).heap.size = w2.heap.size + 1 from by simp] at hl4
      have HRow4 := Lib.hid hrow4
      have HL4 := Lib.hid hl4
      have HB4 := Lib.hid (HB2.out.trans (hb4.mono HB2.out.size))
      clear hlitR hb3 hrow3 hb4 hrow4 hl4
      go_wp2_with (at_builtin; refine wpList_append_G typL rfl _ _ rfl w.heap.size (.slice AV zs.length cV) zs.length zs rfl HRow4.out (some ⟨w2.heap.size + 1, 0, none⟩) 1 1 [⟨kd, a, cc, bd⟩] rfl rfl HL4.out.1 (by simpa using hsm) ?q1 (w2.heap.size + 2) ?q2 ?_)
      case q1 => exact HB4.out.size
      case q2 => simp
      intro v5 w5 r5 g5 l5
      have hb5 := HB4.out.grown g5 HB4.out.size (fun g hg => (HRow4.out.lt g hg).1)
      have HB5 := Lib.hid hb5
      have HR5 : Hid (layL.Row 40 w5 w.heap.size v5 (zs ++ [(⟨kd, a, cc, bd⟩ : BlZ)]).length (zs ++ [(⟨kd, a, cc, bd⟩ : BlZ)])) := Lib.hid (by rw [List.length_append]; exact r5)
      have hok5 : ∀ z ∈ zs ++ [(⟨kd, a, cc, bd⟩ : BlZ)], z.body.ok w := fun z hz => by
        rcases List.mem_append.1 hz with h | h
        · exact HOk.out z h
        · rw [List.mem_singleton.1 h]
          exact ⟨by show bd.length ≤ cc; rw [HBl.out]; exact hlc, HRb0.out⟩
      have HOk5 := Lib.hid hok5
      clear r5 g5 l5 hb5 hok5
      go_wp2_with fail
      go_roundw
      case rel => exact ⟨at1 + (n + 10), zs ++ [(⟨kd, a, cc, bd⟩ : BlZ)], by go_num, by omega, by simp; omega, HR5.out, HOk5.out, by rw [HS2.out, Nat.add_comm at1]; simp [pairL]; omega, HB5.out⟩
      case measure => simp [intOf]; omega
end Go.Proofs.YtpmmbbkomikceaaDoor
