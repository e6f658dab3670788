/- The document's own answers for lists of properties: their bytes. -/
import Derived.Test.YtgacphpkgaobkaaDoorPropRight
import Derived.Test.YtgacphpkgaobkaaDoorValBytes
import Derived.Lib.AppendStr
set_option linter.unusedVariables false
namespace Go.Proofs.YtgacphpkgaobkaaDoor
open Go Go.RowKit

def propB (z : Prop4) : List UInt8 := UInt8.ofNat z.1.size :: (z.1.data.toList ++ bytesV z.2.1 z.2.2.1 z.2.2.2)
def propsL (zs : List Prop4) : List UInt8 := zs.flatMap propB
def propsB (zs : List Prop4) : List UInt8 := UInt8.ofNat zs.length :: propsL zs
theorem propsL_append (a b : List Prop4) : propsL (a ++ b) = propsL a ++ propsL b := by simp [propsL]
/-- What is asked of a list's properties: their texts' lengths, their numbers. -/
def SmallP (z : Prop4) : Prop := z.1.size ≤ 1000 ∧ (-9223372036854775808 ≤ z.2.2.1 ∧ z.2.2.1 ≤ 9223372036854775807) ∧ z.2.2.2.size ≤ 1000
theorem bytesV_len (k n : Int) (s : ByteArray) (hs : s.size ≤ 1000) : (bytesV k n s).length ≤ 2003 := by
  unfold bytesV
  split
  · rw [numB_length]; omega
  · have := (textB_length s.data.toList).2
    have h2 : s.data.toList.length = s.size := Array.length_toList
    omega
theorem bytesV_pos (k n : Int) (s : ByteArray) : 0 < (bytesV k n s).length := by
  unfold bytesV
  split
  · rw [numB_length]; omega
  · have := (textB_length s.data.toList).1
    omega
theorem strCells_u8 (s : ByteArray) : Lib.strCells s = s.data.toList.map u8v := rfl
theorem URow.belowP {w w' : World} {B n : Nat} {v : Value} {bs : List UInt8} (h : URow w B v n bs) (hb : Below w.heap.size w w') : URow w' B v n bs := by
  unfold URow at h ⊢
  refine ⟨h.1, ?_⟩
  rcases h.2 with h2 | ⟨g, cap, cur, h1, h2, h3, h4⟩
  · exact .inl h2
  · refine .inr ⟨g, cap, cur, h1, h2, ?_, h4⟩
    have hlt : g < w.heap.size := by
      rcases Nat.lt_or_ge g w.heap.size with h5 | h5
      · exact h5
      · rw [Array.getElem?_eq_none h5] at h3
        cases h3
    rw [hb.block g hlt]
    exact h3
def RowPost (w : World) (bs : List UInt8) (e : Ending) (w' : World) : Prop := ∃ v, e = .returned v ∧ URow w' w.heap.size v bs.length bs ∧ Below w.heap.size w w'

set_option maxHeartbeats 2000000 in
set_option maxRecDepth 100000 in
theorem refPBytes_any (A : Option Addr) (c : Nat) (zs : List Prop4) (w : World) (h : RdP w A zs) (hl : zs.length ≤ 1000) (hsm : ∀ z ∈ zs, SmallP z) :
    Calls Tryd.prog 24 #[.slice A zs.length c] w (RowPost w (propsB zs)) := by
  obtain ⟨i0, hi, hz0, hz1, hz2⟩ := info_parts byte_infoV
  have HRd := Lib.hid h
  have HSm := Lib.hid hsm
  clear h hsm
  have hc0 := u8v_ofNat zs.length
  have HC0 := Lib.hid hc0
  clear hc0
  go_enter Tryd.func24, Tryd.ntmps24
  go_wp2_with fail
  go_loopw [3, 4] (fun x i wr => ∃ (j L : Nat) (v : Value), v = x ∧ i = .int .i64 (j : Nat) ∧ j ≤ zs.length ∧ L ≤ 1 + 4000 * j ∧ URow wr w.heap.size v L (UInt8.ofNat zs.length :: propsL (zs.take j)) ∧ Below w.heap.size w wr) (fun _ i _ => zs.length - (intOf i).toNat)
  case atStart => exact ⟨0, 1, _, rfl, rfl, by omega, by omega, by unfold URow; rw [List.map_cons, HC0.out]; exact World.ownsRow_lit (base := w.heap.size) (e := 5) (size := 1) w #[.int .u8 ((zs.length : Int) % 256)] 1 (Nat.le_refl _) (by decide) rfl, (Below.refl _ _).alloc (Nat.le_refl _) _⟩
  case round =>
    obtain ⟨j, L, v, rfl, rfl, hj, hL, hrow, hbw⟩ := hrel
    have hbs := hbw.size
    by_cases hlt : j < zs.length
    · obtain ⟨ad, rfl, hblk, g0, g1, g2, g3⟩ := (HRd.out.below (Nat.le_refl _) hbw).at4 hlt
      have htk : zs.take (j + 1) = zs.take j ++ [zs.getD j Prop4.no] := by
        rw [List.take_succ_eq_append_getElem hlt, List.getD_eq_getElem?_getD, List.getElem?_eq_getElem hlt]
        rfl
      have hmem : zs.getD j Prop4.no ∈ zs := by rw [List.getD_eq_getElem?_getD, List.getElem?_eq_getElem hlt]; exact List.getElem_mem hlt
      have hsz := HSm.out _ hmem
      obtain ⟨⟨key, k, n, s⟩, hz⟩ : ∃ z, zs.getD j Prop4.no = z := ⟨_, rfl⟩
      have HZ := Lib.hid hz
      rw [hz] at g0 g1 g2 g3 htk hsz
      obtain ⟨z1, ⟨z2, z3⟩, z4⟩ := hsz
      simp only [] at z1 z2 z3 z4
      have hcs := u8v_ofNat key.size
      have HCs := Lib.hid hcs
      have hbs2 : propsL (zs.take (j + 1)) = propsL (zs.take j) ++ ([UInt8.ofNat key.size] ++ key.data.toList ++ bytesV k n s) := by rw [htk, propsL_append]; simp [propsL, propB]
      have hbl := bytesV_len k n s z4
      have hbp := bytesV_pos k n s
      have hrb := fun W => refBytes_any k n s W z2 z3 (by omega)
      unfold BytesPost valV at hrb
      generalize bytesV k n s = bk at *
      obtain ⟨lk, hlk⟩ : ∃ l, bk.length = l := ⟨_, rfl⟩
      rw [hlk] at hbl hbp hrb
      have HRb := Lib.hid hrb; have HBs := Lib.hid hbs2; have HLk := Lib.hid hlk
      clear hcs hbs2 hrb hlk htk hmem hz
      go_wp2_with (at_builtin; refine wpList_append_own _ rfl _ _ 43 rfl w.heap.size 5 i0 (.int .u8 0) 1 1 Tryd.underlying43 hi hz0 hz1 hz2 rfl (by decide) _ _ _ rfl (hrow.alloc _) ⟨wr.heap.size, 0, none⟩ 1 1 [.int .u8 ((key.size : Int) % 256)] rfl rfl ?a4 ?b4 ?c4 ?d4 ?e4 ?_)
      try (case a4 => exact (World.ownsRow_lit (base := wr.heap.size) (e := 5) (size := 1) wr #[.int .u8 ((key.size : Int) % 256)] 1 (Nat.le_refl _) (by decide) rfl).cells rfl)
      try (case b4 => first | rfl | (intro u' hu'; obtain rfl := List.mem_singleton.1 hu'; rfl))
      try (case c4 => unfold maxLen; omega)
      try (case d4 => omega)
      try (case e4 => first | (simp; omega) | (simp; done) | omega | exact Nat.le_trans hbs (by simp))
      intro v4 w4 hown4 hgrow4 _
      have hbw4 : Below w.heap.size w w4 := (hbw.alloc (by omega) _).grown hgrow4 (by simp; omega) (fun k' hk' => (World.ownsRow.lt hrow k' hk').1)
      have hs4 := hbw4.size
      have hd4 : Below wr.heap.size wr w4 ∨ True := .inr trivial
      have h4 : URow w4 w.heap.size v4 (L + 1) ((UInt8.ofNat zs.length :: propsL (zs.take j)) ++ [UInt8.ofNat key.size]) := by
        unfold URow
        rw [List.map_append, show [UInt8.ofNat key.size].map u8v = [Value.int .u8 ((key.size : Int) % 256)] from by rw [List.map_cons, HCs.out]; rfl]
        exact hown4
      obtain ⟨ad', he, _, f0, f1, f2, f3⟩ := (HRd.out.below (Nat.le_refl _) hbw4).at4 hlt
      obtain rfl : ad = ad' := by injection he
      rw [HZ.out] at f0 f1 f2 f3
      clear g0 g1 g2 g3 hown4 he hd4
      go_wp2_with (at_builtin; refine Lib.wpList_append_own_string _ rfl _ _ 43 9 rfl w.heap.size 5 i0 Tryd.underlying43 Tryd.underlying9 hi hz0 hz1 hz2 _ (L + 1) _ rfl h4 key rfl ?c5 ?d5 ?e5 ?_)
      try (case c5 => unfold maxLen; omega)
      try (case d5 => omega)
      try (case e5 => omega)
      intro v5 w5 hown5 hgrow5 _
      have hbw5 : Below w.heap.size w w5 := hbw4.grown hgrow5 (by omega) (fun k' hk' => (World.ownsRow.lt h4 k' hk').1)
      have h5 : URow w5 w.heap.size v5 (L + 1 + key.size) ((UInt8.ofNat zs.length :: propsL (zs.take j)) ++ [UInt8.ofNat key.size] ++ key.data.toList) := by
        unfold URow
        simp only [List.map_append, List.map_cons, strCells_u8, List.append_assoc, List.cons_append, List.nil_append] at hown5 ⊢
        exact hown5
      have hs5 := hbw5.size
      obtain ⟨ad', he, _, g0, g1, g2, g3⟩ := (HRd.out.below (Nat.le_refl _) hbw5).at4 hlt
      obtain rfl : ad = ad' := by injection he
      rw [HZ.out] at g0 g1 g2 g3
      clear f0 f1 f2 f3 hown5 he
      go_wp2_with fail
      refine (HRb.out _).mono ?_
      rintro e w6 ⟨vx, rfl, hv6, b6⟩
      obtain ⟨g, cap, rfl⟩ := URow.form hv6 hbp
      have h6 := URow.belowP h5 b6
      have hb6 : Below w.heap.size w w6 := btV hbw5 b6
      have hs6 := hb6.size
      go_wp2_with (at_builtin; refine wpList_append_own _ rfl _ _ 43 rfl w.heap.size 5 i0 (.int .u8 0) 1 1 Tryd.underlying43 hi hz0 hz1 hz2 rfl (by decide) _ _ _ rfl h6 ⟨g, 0, none⟩ lk cap (bk.map u8v) rfl ?l7 ?a7 ?b7 ?c7 ?d7 ?e7 ?_)
      try (case l7 => rw [List.length_map, Nat.mul_one, HLk.out])
      try (case a7 => exact World.ownsRow.cells hv6 rfl)
      try (case b7 => exact u8v_one _)
      try (case c7 => unfold maxLen; omega)
      try (case d7 => omega)
      try (case e7 => omega)
      intro v7 w7 hown7 hgrow7 _
      have hbw7 : Below w.heap.size w w7 := hb6.grown hgrow7 (by omega) (fun k' hk' => (World.ownsRow.lt h6 k' hk').1)
      go_wp2_with fail
      go_roundw
      case rel =>
        refine ⟨j + 1, L + 1 + key.size + lk, v7, rfl, by go_num, by omega, by omega, ?_, hbw7⟩
        unfold URow
        rw [HBs.out]
        simp only [List.map_append, List.map_cons, List.cons_append, List.nil_append] at hown7 ⊢
        exact hown7
      case measure => simp [intOf]; omega
    · obtain rfl : j = zs.length := by omega
      have htf : zs.take zs.length = zs := List.take_of_length_le (Nat.le_refl _)
      rw [htf] at hrow
      have hlen : (propsB zs).length = L := by
        have := hrow.1
        rw [List.length_map, Nat.mul_one] at this
        exact this
      go_wp2_with fail
      go_ret
      exact ⟨_, rfl, by rw [hlen]; exact hrow, hbw⟩
end Go.Proofs.YtgacphpkgaobkaaDoor
