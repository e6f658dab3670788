/- The landed package block: Scan; all that is asked of it. -/
import Derived.Test.YtpmmbbkomikceaaDoorBlCode3
set_option linter.unusedVariables false
namespace Go.Proofs.YtpmmbbkomikceaaDoor
open Go Go.RowKit

/-- None of the bodies lies in the row's own block. -/
def Clear (v : Value) (zs : List BlZ) : Prop := ∀ z ∈ zs, z.body.bs ≠ [] → ∀ ad, z.body.adr = some ad → v.ownBlock ≠ some ad.block
theorem ok_only {w w' : World} {S : Nat → Prop} {z : BsZ} (h : z.ok w) (ho : Only S w w') (hS : z.bs ≠ [] → ∀ ad, z.adr = some ad → ¬ S ad.block) : z.ok w' := ⟨h.1, h.2.only ho hS⟩
set_option maxHeartbeats 8000000 in
set_option maxRecDepth 100000 in
theorem codeScan (A : Option Addr) (c : Nat) (bs : List UInt8) (w : World) (hr : layB.Rd w A bs) (hc : bs.length ≤ c) (hl : bs.length ≤ 900000) (hT : ShT w) :
    Calls Tryd.prog 15 #[.slice A bs.length c] w fun e w' => ∃ (D : Option Addr) (d : Nat) (zs : List BlZ), e = .returned (.tuple #[.slice D zs.length d, .int .i64 ((scanR bs).2 : Nat)]) ∧ zs.length ≤ d ∧ zs.length ≤ bs.length ∧ RdL w' D zs ∧ zs.map pairL = (scanR bs).1 ∧ Below w.heap.size w w' := by
  have HR := Lib.hid hr
  have HTab := Lib.hid hT
  clear hr hT
  go_enter Tryd.func15, Tryd.ntmps15
  go_wp2_with fail
  go_loopw [4, 5] (fun v i wr => ∃ (at1 : Nat) (zs : List BlZ), i = .int .i64 (at1 : Nat) ∧ at1 ≤ bs.length ∧ zs.length ≤ at1 ∧ layL.Row 40 wr w.heap.size v zs.length zs ∧ (∀ z ∈ zs, z.body.ok wr) ∧ Clear v zs ∧
    scanR bs = (zs.map pairL ++ (scanR (bs.drop at1)).1, at1 + (scanR (bs.drop at1)).2) ∧ Below w.heap.size w wr) (fun _ i _ => bs.length - (intOf i).toNat)
  case atStart => exact ⟨0, [], rfl, Nat.zero_le _, Nat.zero_le _, LayG.Row.nil _ _, (fun z hz => by cases hz), (fun z hz => by cases hz), by simp, Below.refl _ _⟩
  case round =>
    obtain ⟨at1, zs, rfl, ha, hz, hrow, hok, hclr, hsc, hbw⟩ := hrel
    obtain ⟨AV, cV, rfl, hcV, hrdV, _, _⟩ := hrow.rd
    have HRow := Lib.hid hrow
    have HOk := Lib.hid hok
    have HClr := Lib.hid hclr
    have HLt := Lib.hid hrow.lt
    have HSc := Lib.hid hsc
    have HBw := Lib.hid hbw
    have hrA := rd_from (HR.out.below (Nat.le_refl _) hbw) hc ha
    have hsl := fun W => slice_fromB W A bs.length c at1 ha
    have hT := codeTake (fromA A c at1) (c - at1) (bs.drop at1) wr hrA (by rw [List.length_drop]; omega) (by rw [List.length_drop]; omega) (HTab.out.below hbw)
    rw [List.length_drop] at hT
    obtain ⟨AT, hAT⟩ : ∃ X, fromA A c at1 = X := ⟨_, rfl⟩
    rw [hAT] at hsl hT
    have HT := Lib.hid hT
    have HAT := Lib.hid hAT
    have HRdV := Lib.hid hrdV
    clear hT hAT hrow hclr hok hsc hbw hrA hrdV
    go_wp2_with fail
    refine HT.out.mono ?_
    rintro e w2 ⟨b2, ⟨hne, a0, cc0, rfl⟩ | ⟨he, a, cc, rfl, hlc, hrb, hnew⟩⟩
    · have hni : ¬ ((takeE (bs.drop at1) : Int) = 0) := by omega
      have hs2 := HSc.out
      rw [scanR_no hne] at hs2
      have HS2 := Lib.hid hs2
      have HB2 := Lib.hid (HBw.out.trans (b2.mono HBw.out.size))
      have hfin : ∀ o : Obj, RdL (w2.alloc o) AV zs ∧ Below w.heap.size w (w2.alloc o) := fun o => by
        have hb3 := (b2.alloc b2.size o)
        exact ⟨⟨HRdV.out.below (Nat.le_refl _) hb3, fun z hz => (HOk.out z hz).below (Nat.le_refl _) hb3⟩, HB2.out.alloc HB2.out.size o⟩
      have HFin := Lib.hid hfin
      obtain ⟨q, hq⟩ : ∃ q, takeE (bs.drop at1) = q := ⟨_, rfl⟩
      rw [hq] at hni ⊢
      clear hne hs2 b2 hq hfin
      go_wp2_with fail
      exact bodyPost_ret (v := .tuple #[.slice AV zs.length cV, .int .i64 (at1 : Int)]) (by simp [results, Tryd.results15, go_sem]) rfl ⟨AV, cV, zs, by rw [HS2.out]; rfl, hcV, by omega, (HFin.out _).1, by rw [HS2.out]; simp, (HFin.out _).2⟩
    · have hlen := takeE_len he
      rw [List.length_drop] at hlen
      have hs2 := HSc.out
      rw [scanR_ok he] at hs2
      obtain ⟨n, hn⟩ : ∃ n, lenR (bs.drop at1) = n := ⟨_, rfl⟩
      rw [hn] at hlen hs2 hlc hrb ⊢
      obtain ⟨kd, hkd⟩ : ∃ k, (bs.drop at1).getD 1 default = k := ⟨_, rfl⟩
      rw [hkd] at hs2 ⊢
      obtain ⟨bd, hbd⟩ : ∃ l, ((bs.drop at1).drop 6).take n = l := ⟨_, rfl⟩
      have hbl : bd.length = n := by rw [← hbd, List.length_take, List.length_drop, List.length_drop]; omega
      rw [hbd] at hs2
      have HBd2 := Lib.hid hbd
      rw [List.drop_drop] at hs2
      have HS2 := Lib.hid hs2
      have HB2 := Lib.hid (HBw.out.trans (b2.mono HBw.out.size))
      have HRow2 := Lib.hid (HRow.out.only (S := NoB) (Below.only b2) (fun _ _ h => h))
      have HOk2 := HOk
      rw [HBd2.out] at hrb
      have HNew := Lib.hid hnew
      have HB02 := Lib.hid b2
      have HRb := Lib.hid hrb
      have HBl := Lib.hid hbl
      have hsm : zs.length + 1 ≤ 1000000 := by omega
      have hai : (at1 : Int) + ((n + 10 : Nat) : Int) ≤ 900000 := by omega
      clear he hs2 hn hkd hbd b2 hrb hbl hnew HRow HRdV
      have hlitR : ∀ (W : World), layB.Rd W a bd → RdL (W.alloc (.cells #[.int .u8 (kd.toNat : Int), .slice a n cc] 40)) (some ⟨W.heap.size, 0, none⟩) [⟨kd, a, cc, bd⟩] := fun W hW => by
        refine ⟨LayG.Rd.lit (L := layL) (E := 40) W _ [⟨kd, a, cc, bd⟩] (by rw [← HBl.out]; rfl) (by simp [maxLen]), fun z hz => ?_⟩
        rw [List.mem_singleton.1 hz]
        exact ⟨by show bd.length ≤ cc; rw [HBl.out]; exact hlc, hW.below (Nat.le_refl _) ((Below.refl _ _).alloc (Nat.le_refl _) _)⟩
      have HLit := Lib.hid hlitR
      have hb3 := (Below.refl w2.heap.size w2).alloc (Nat.le_refl _) (.cells #[.int .u8 (kd.toNat : Int), .slice a n cc] 40)
      have hrow3 := HRow2.out.only (S := NoB) (Below.only hb3) (fun _ _ h => h)
      have hb4 := hb3.alloc (by simp) (.cells #[.int .u8 (kd.toNat : Int), .slice a n cc] 40)
      have hrow4 := HRow2.out.only (S := NoB) (Below.only hb4) (fun _ _ h => h)
      have hl4 := HLit.out (w2.alloc (.cells #[.int .u8 (kd.toNat : Int), .slice a n cc] 40)) (HRb.out.below (Nat.le_refl _) hb3)
      rw [show (w2.alloc (.cells #[.int .u8 (kd.toNat : Int), .slice a n cc] 40)).heap.size = w2.heap.size + 1 from by simp] at hl4
      have HRow4 := Lib.hid hrow4
      have HL4 := Lib.hid hl4
      have HB4 := Lib.hid (HB2.out.trans (hb4.mono HB2.out.size))
      have HB24 := Lib.hid hb4
      clear hlitR hb3 hrow3 hb4 hrow4 hl4
      go_wp2_with (at_builtin; refine wpList_append_G typL rfl _ _ rfl w.heap.size (.slice AV zs.length cV) zs.length zs rfl HRow4.out (some ⟨w2.heap.size + 1, 0, none⟩) 1 1 [⟨kd, a, cc, bd⟩] rfl rfl HL4.out.1 (by simpa using hsm) ?q1 (w2.heap.size + 2) ?q2 ?_)
      case q1 => exact HB4.out.size
      case q2 => simp
      intro v5 w5 r5 g5 l5
      have hb5 := HB4.out.grown g5 HB4.out.size (fun g hg => (HRow4.out.lt g hg).1)
      have HB5 := Lib.hid hb5
      have HR5 : Hid (layL.Row 40 w5 w.heap.size v5 (zs ++ [(⟨kd, a, cc, bd⟩ : BlZ)]).length (zs ++ [(⟨kd, a, cc, bd⟩ : BlZ)])) := Lib.hid (by rw [List.length_append]; exact r5)
      have hown : ∀ ad, a = some ad → bd ≠ [] → v5.ownBlock ≠ some ad.block ∧ (Value.slice AV zs.length cV).ownBlock ≠ some ad.block := fun ad e hne => by
        have h1 := HNew.out ad e
        have h2 : (Value.slice AV zs.length cV).ownBlock ≠ some ad.block := fun q => by have := (HLt.out _ q).2; omega
        obtain ⟨ae, e2, h3, _⟩ := HRb.out 0 (List.length_pos_iff.2 hne)
        obtain rfl : ad = ae := by rw [e] at e2; injection e2
        refine ⟨fun q => ?_, h2⟩
        rcases l5 _ q with h | h
        · exact h2 h
        · omega
      have hall5 : ∀ z ∈ zs, z.body.bs ≠ [] → ∀ ad, z.body.adr = some ad → v5.ownBlock ≠ some ad.block := fun z hz hne ad e q => by
        rcases l5 _ q with h | h
        · exact HClr.out z hz hne ad e h
        · obtain ⟨ae, e2, h3, _⟩ := (HOk.out z hz).2 0 (List.length_pos_iff.2 hne)
          obtain rfl : ad = ae := by rw [e] at e2; injection e2
          have := HB02.out.size
          omega
      have hclr5 : Clear v5 (zs ++ [(⟨kd, a, cc, bd⟩ : BlZ)]) := fun z hz hne ad e => by
        rcases List.mem_append.1 hz with h | h
        · exact hall5 z h hne ad e
        · have hz2 := List.mem_singleton.1 h
          subst hz2
          exact (hown ad e hne).1
      have ho5 : Only (fun k => (Value.slice AV zs.length cV).ownBlock = some k) w2 w5 := (Only.mono (S := NoB) (Below.only HB24.out) (fun _ h => h.elim)).grown g5 (fun k hk => .inl hk)
      have hok5 : ∀ z ∈ zs ++ [(⟨kd, a, cc, bd⟩ : BlZ)], z.body.ok w5 := fun z hz => by
        rcases List.mem_append.1 hz with h | h
        · exact ok_only ((HOk.out z h).below (Nat.le_refl _) HB02.out) ho5 (fun hne ad e => HClr.out z h hne ad e)
        · have hz2 := List.mem_singleton.1 h
          subst hz2
          exact ok_only (z := ⟨a, cc, bd⟩) ⟨by show bd.length ≤ cc; rw [HBl.out]; exact hlc, HRb.out⟩ ho5 (fun hne ad e => (hown ad e hne).2)
      have HClr5 := Lib.hid hclr5
      have HOk5 := Lib.hid hok5
      clear r5 g5 l5 hb5 hok5 hclr5 ho5 hall5 hown
      go_wp2_with fail
      go_roundw
      case rel => exact ⟨at1 + (n + 10), zs ++ [(⟨kd, a, cc, bd⟩ : BlZ)], by go_num, by omega, by simp; omega, HR5.out, HOk5.out, HClr5.out, by rw [HS2.out, Nat.add_comm at1]; simp [pairL]; omega, HB5.out⟩
      case measure => simp [intOf]; omega
theorem blSpec_is : BlSpec where
  sum_ := fun A c zs w hr hc hl hn hT => (codeSum A c zs w hr hc (by omega) (by omega) hT).mono (fun e w' ⟨h1, h2⟩ => ⟨h1, by subst h2; exact Below.refl _ _⟩)
  pack_ := fun A c zs w hr hc hl hn hT => codePack A c zs w hr hc (by omega) (by omega) hT
  take_ := fun A c bs w hr hc hl hT => (codeTake A c bs w hr hc (by omega) hT).mono (fun e w' ⟨h1, h2⟩ => ⟨h1, h2.imp id (fun ⟨h3, a, cc, h4, h5, h6, _⟩ => ⟨h3, a, cc, h4, h5, h6⟩)⟩)
  scan_ := fun A c bs w hr hc hl hT => codeScan A c bs w hr hc (by omega) hT
  size_ := fun A c zs w hr hc hl hn => codeSize A c zs w hr (by omega) (by omega)
end Go.Proofs.YtpmmbbkomikceaaDoor
