/- Several names in a call; the document's examples. -/
import Derived.Test.YtgacphpkgaobkaaDoorQuote
set_option linter.unusedVariables false
namespace Go.Proofs.YtgacphpkgaobkaaDoor
open Go Go.RowKit

def RdS (w : World) (A : Option Addr) (ss : List ByteArray) : Prop := ∀ k, k < ss.length → ∃ ad, A = some ad ∧ ad.block < w.heap.size ∧ w.cell? (ad.add k) = some (.string (ss.getD k ByteArray.empty))
theorem RdS.below {w w' : World} {B : Nat} {A : Option Addr} {rs : List ByteArray} (h : RdS w A rs) (hB : w.heap.size ≤ B) (hb : Below B w w') : RdS w' A rs := by
  intro k hk
  obtain ⟨ad, e, hlt, hc⟩ := h k hk
  refine ⟨ad, e, Nat.lt_of_lt_of_le hlt hb.size, ?_⟩
  have hbl : (ad.add k).block = ad.block := by unfold Addr.add; split <;> rfl
  rw [World.cell?_of_block (hb.block _ (by omega))]
  exact hc
theorem RdS.at1 {w : World} {A : Option Addr} {rs : List ByteArray} (h : RdS w A rs) {k : Nat} (hk : k < rs.length) : ∃ ad, A = some ad ∧ w.cell? (ad.add k) = some (.string (rs.getD k ByteArray.empty)) := by
  obtain ⟨ad, e, _, hc⟩ := h k hk
  exact ⟨ad, e, hc⟩
def nameB (s : ByteArray) : Bool := nameL (runes s.data.toList)
theorem allS_at (p : ByteArray → Bool) (rs : List ByteArray) (k : Nat) (h : k < rs.length) : (rs.drop k).all p = (p (rs.getD k ByteArray.empty) && (rs.drop (k + 1)).all p) := by
  rw [List.drop_eq_getElem_cons h, List.all_cons]
  simp [List.getD_eq_getElem?_getD, List.getElem?_eq_getElem h]

set_option maxHeartbeats 1000000 in
set_option maxRecDepth 100000 in
theorem right_any (A : Option Addr) (c n : Nat) (ss : List ByteArray) (w : World) (h : RdS w A ss) (hn : n = ss.length) (hc : ss.length ≤ c) (hlen : ss.length ≤ 1000000) (hsz : ∀ k, k < ss.length → (ss.getD k ByteArray.empty).size ≤ 1000000) :
    Calls Tryd.prog 49 #[.slice A n c] w fun e w' => e = .returned (.bool (ss.all nameB)) ∧ Below w.heap.size w w' := by
  subst hn
  have HRd := Lib.hid h
  have HSz := Lib.hid hsz
  clear h hsz
  go_enter Tryd.func49, Tryd.ntmps49
  go_wp2
  go_loopw [7] (fun i wr => ∃ k : Nat, k ≤ ss.length ∧ i = .int .i64 (k : Nat) ∧ (ss.drop k).all nameB = ss.all nameB ∧ Below w.heap.size w wr) (fun i _ => ss.length - (intOf i).toNat)
  case atStart => exact ⟨0, Nat.zero_le _, rfl, rfl, Below.refl _ _⟩
  case round =>
    obtain ⟨k, hk, rfl, hall, hbw⟩ := hrel
    have HAll := Lib.hid hall
    clear hall
    by_cases hlt : k < ss.length
    · obtain ⟨ad, rfl, hcell⟩ := (HRd.out.below (Nat.le_refl _) hbw).at1 hlt
      have hst := allS_at nameB ss k hlt
      have hsz := HSz.out k hlt
      obtain ⟨s, hs⟩ : ∃ s, ss.getD k ByteArray.empty = s := ⟨_, rfl⟩
      rw [hs] at hcell hst hsz
      have HS := Lib.hid hst
      clear hst hs
      have hnm : ∀ W, Calls Tryd.prog 68 #[.string s] W fun e w' => e = .returned (.bool (nameB s)) ∧ Below W.heap.size W w' := fun W => isName_any s W hsz
      have HNm := Lib.hid hnm
      clear hnm
      cases hb : nameB s
      · have HB := Lib.hid hb
        rw [hb] at HNm
        clear hb
        go_wp2_with (go_at_call 68; refine (HNm.out _).mono ?_; rintro e w1 ⟨rfl, hb1⟩)
        go_ret
        exact ⟨ret_bool (by rw [← HAll.out, HS.out, HB.out]; rfl), bt hbw (hb1.mono (Nat.le_refl _))⟩
      · have HB := Lib.hid hb
        rw [hb] at HNm
        clear hb
        go_wp2_with (go_at_call 68; refine (HNm.out _).mono ?_; rintro e w1 ⟨rfl, hb1⟩)
        go_roundw
        case rel => exact ⟨k + 1, by omega, by go_num, by rw [← HAll.out, HS.out, HB.out]; rfl, bt hbw hb1⟩
        case measure => simp [intOf]; omega
    · obtain rfl : k = ss.length := by omega
      go_wp2
      go_ret
      exact ⟨ret_bool (by rw [← HAll.out]; simp), hbw⟩

theorem right_one (ad : Addr) (c : Nat) (s : ByteArray) (w : World) (hb : ad.block < w.heap.size) (hcell : w.cell? ad = some (.string s)) (hc : 1 ≤ c) (hs : s.size ≤ 1000000) :
    Calls Tryd.prog 49 #[.slice (some ad) 1 c] w fun e w' => e = .returned (.bool (nameB s)) ∧ Below w.heap.size w w' := by
  have h := right_any (some ad) c 1 [s] w (fun k hk => ⟨ad, rfl, hb, by
    obtain rfl : k = 0 := by simp at hk; omega
    simpa [Addr.add] using hcell⟩) rfl hc (by simp) (fun k hk => by
    obtain rfl : k = 0 := by simp at hk; omega
    exact hs)
  simpa using h

/-- A new block with one text: its cell. -/
theorem right_new (w : World) (s : ByteArray) (o : Obj) (ho : o = .cells #[.string s] 9) (hs : s.size ≤ 1000000) :
    Calls Tryd.prog 49 #[.slice (some ⟨w.heap.size, 0, none⟩) 1 1] (w.alloc o) fun e w' => e = .returned (.bool (nameB s)) ∧ Below w.heap.size w w' := by
  subst ho
  refine (right_one ⟨w.heap.size, 0, none⟩ 1 s _ (by simp) (by rw [World.cell?_alloc_mark]; rfl) (Nat.le_refl _) hs).mono ?_
  rintro e w' ⟨rfl, hb⟩
  exact ⟨rfl, ((Below.refl _ w).alloc (Nat.le_refl _) _).trans (hb.mono (by simp))⟩

theorem aw_r1 : runes [103, 114, 97, 112, 104] = [103, 114, 97, 112, 104] := by decide +kernel
theorem aw_r2 : runes [103, 42, 112, 63] = [103, 42, 112, 63] := by decide +kernel
theorem aw_r3 : runes [] = [] := rfl
theorem aw_r4 : runes [42] = [42] := by decide +kernel
theorem aw_l1 : likeR (runes [103, 114, 97, 112, 104]) (runes [103, 42, 112, 63]) = .tuple #[.bool true, .int .i64 0] := by
  rw [aw_r1, aw_r2]
  simp [likeR, fitsL]
theorem aw_l2 : likeR (runes []) (runes [42]) = .tuple #[.bool true, .int .i64 0] := by
  rw [aw_r3, aw_r4]
  simp [likeR, fitsL]
theorem aw_n1 : nameB ⟨#[195, 132, 114, 103, 101, 114, 95, 55]⟩ = true := by decide +kernel
theorem aw_n2 : nameB ⟨#[55, 97]⟩ = false := by decide +kernel
theorem aw_n3 : nameB ⟨#[97, 45, 98]⟩ = false := by decide +kernel
theorem aw_n4 : nameB ⟨#[]⟩ = false := by decide +kernel
theorem aw_f : foldL [195, 132, 66, 67, 195, 151] = [195, 164, 98, 99, 195, 151] := by decide +kernel
theorem aw_q : quoteL [115, 97, 121, 32, 34, 104, 105, 34] = [34, 115, 97, 121, 32, 92, 34, 104, 105, 92, 34, 34] := by decide +kernel

end Go.Proofs.YtgacphpkgaobkaaDoor
