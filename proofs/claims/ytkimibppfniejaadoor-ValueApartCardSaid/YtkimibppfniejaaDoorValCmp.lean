/- The order of values: the code's own. -/
import Derived.Test.YtkimibppfniejaaDoorValThing
import Derived.Test.YtkimibppfniejaaDoorShelf
import Derived.Lib.Slices
import Derived.Deep.RegionHeld3
set_option linter.unusedVariables false
namespace Go.Proofs.YtkimibppfniejaaDoor
open Go Go.RowKit
theorem two_boxesC (w : World) (k n : Int) (s : ByteArray) (k' n' : Int) (s' : ByteArray) : ∃ W0, ((w.alloc (.cells #[.int .i64 k, .int .i64 n, .string s] 23)).alloc (.cells #[.int .i64 k', .int .i64 n', .string s'] 23)) = W0 ∧ Box W0 w.heap.size k n s ∧ Box W0 (w.heap.size + 1) k' n' s' ∧ Below w.heap.size w W0 ∧ W0.heap.size = w.heap.size + 2 := by
  refine ⟨_, rfl, (Box.new w k n s).block (Lib.alloc_old _ _ _ (by simp)), ?_, ((Below.refl _ _).alloc (Nat.le_refl _) _).alloc (by simp) _, by simp⟩
  have h := Box.new (w.alloc (.cells #[.int .i64 k, .int .i64 n, .string s] 23)) k' n' s'
  have e : (w.alloc (.cells #[.int .i64 k, .int .i64 n, .string s] 23)).heap.size = w.heap.size + 1 := by simp
  rw [e] at h
  exact h
theorem compareInt_eq (x y : Int) : Lib.compareInt x y = if x = y then 0 else if x < y then -1 else 1 := by
  unfold Lib.compareInt
  by_cases h : x = y
  · subst h; simp
  · by_cases h2 : x < y
    · simp [h, h2]
    · have h3 : y < x := by omega
      simp [h, h2, h3]
theorem compareBytes_eq : ∀ a b : List UInt8, Lib.compareBytes a b = ordB a b
  | [], [] => rfl
  | [], _ :: _ => rfl
  | _ :: _, [] => rfl
  | a :: s, b :: t => by
    have ih := compareBytes_eq s t
    rw [ordB_cons, ← ih]
    show (if a < b then (-1 : Int) else if b < a then 1 else Lib.compareBytes s t) = _
    simp only [UInt8.lt_iff_toNat_lt]
def orL : List Int → Int
  | [] => 0
  | z :: zs => if z = 0 then orL zs else z
theorem or_cmpV (k1 n1 : Int) (s1 : ByteArray) (k2 n2 : Int) (s2 : ByteArray) : orL [Lib.compareInt k1 k2, Lib.compareInt n1 n2, Lib.compareBytes s1.data.toList s2.data.toList] = cmpV k1 n1 s1 k2 n2 s2 := by
  rw [compareInt_eq, compareInt_eq, compareBytes_eq]
  unfold cmpV
  by_cases h1 : k1 = k2
  · by_cases h2 : n1 = n2
    · simp [orL, h1, h2]
      intro h
      exact h.symm
    · by_cases h3 : n1 < n2
      · simp [orL, h1, h2, h3]
      · simp [orL, h1, h2, h3]
  · by_cases h3 : k1 < k2
    · simp [orL, h1, h3]
    · simp [orL, h1, h3]
/-- What lies behind a slice of ints (64 bits). -/
def RdN (w : World) (ad : Addr) (zs : List Int) : Prop := ∀ k, k < zs.length → w.cell? { block := ad.block, off := ad.off + k } = some (.int .i64 (zs.getD k 0))

theorem rdN3 (W : World) (x y z : Int) {N : Nat} (hN : W.heap.size = N) : RdN (W.alloc (.cells #[.int .i64 x, .int .i64 y, .int .i64 z] 3)) ⟨N, 0, none⟩ [x, y, z] := by
  subst hN
  intro k hk
  have h0 : k = 0 ∨ k = 1 ∨ k = 2 := by simp at hk; omega
  rcases h0 with rfl | rfl | rfl <;> (simp [World.cell?_alloc_mark])

set_option maxHeartbeats 1000000 in
set_option maxRecDepth 100000 in
theorem cmpOr_any (N : Nat) (zs : List Int) (w : World) (h : RdN w ⟨N, 0, none⟩ zs) (hl : zs.length ≤ 1000) :
    Calls Tryd.prog 33 #[.slice (some ⟨N, 0, none⟩) zs.length zs.length] w fun e w' => e = .returned (.int .i64 (orL zs)) ∧ Below w.heap.size w w' := by
  have HRd := Lib.hid h
  clear h
  go_enter Tryd.func33, Tryd.ntmps33
  go_wp2_with fail
  go_loop [8] (fun i => ∃ j : Nat, j ≤ zs.length ∧ i = .int .i64 (j : Nat) ∧ orL (zs.drop j) = orL zs) (fun i => zs.length - (intOf i).toNat)
  case atStart => exact ⟨0, Nat.zero_le _, rfl, by simp⟩
  case round =>
    obtain ⟨j, hj, rfl, hacc⟩ := hrel
    by_cases hlt : j < zs.length
    · have hc := HRd.out j hlt
      have hdr : zs.drop j = zs.getD j 0 :: zs.drop (j + 1) := by
        rw [List.drop_eq_getElem_cons hlt]
        simp [List.getD_eq_getElem?_getD, List.getElem?_eq_getElem hlt]
      obtain ⟨z, hz⟩ : ∃ z, zs.getD j 0 = z := ⟨_, rfl⟩
      rw [hz] at hc hdr
      rw [hdr] at hacc
      have hc2 : w.cell? { block := N, off := j } = some (.int .i64 z) := by simpa using hc
      clear hc hz hdr
      by_cases hz0 : z = 0
      · subst hz0
        have HA : Hid (orL (zs.drop (j + 1)) = orL zs) := Lib.hid (by rw [← hacc]; simp [orL])
        clear hacc
        go_wp2_with fail
        go_round
        case rel => exact ⟨j + 1, by omega, by go_num, HA.out⟩
        case measure => simp [intOf]; omega
      · have HA : Hid (orL zs = z) := Lib.hid (by rw [← hacc]; simp [orL, hz0])
        have hne : (z != 0) = true := by simpa using hz0
        clear hacc
        go_wp2_with fail
        go_ret
        exact ⟨by rw [HA.out]; rfl, Below.refl _ _⟩
    · obtain rfl : j = zs.length := by omega
      have HA : Hid (orL zs = 0) := Lib.hid (by rw [← hacc]; simp [orL])
      clear hacc
      go_wp2_with fail
      go_ret
      exact ⟨by rw [HA.out]; rfl, Below.refl _ _⟩

set_option maxHeartbeats 2000000 in
set_option maxRecDepth 100000 in
theorem valCompare_any (k1 n1 : Int) (s1 : ByteArray) (k2 n2 : Int) (s2 : ByteArray) (w : World) :
    Calls Tryd.prog 14 #[valV k1 n1 s1, valV k2 n2 s2] w fun e w' => e = .returned (.int .i64 (cmpV k1 n1 s1 k2 n2 s2)) ∧ Below w.heap.size w w' := by
  obtain ⟨W0, hW0, hbx0, hbx1, hb0, hsz0⟩ := two_boxesC w k1 n1 s1 k2 n2 s2
  have hor := or_cmpV k1 n1 s1 k2 n2 s2
  have HK := Lib.hid (fun W => Tryd.cmp_Compare_int k1 k2 W)
  have HN := Lib.hid (fun W => Tryd.cmp_Compare_int n1 n2 W)
  have HS := Lib.hid (fun W => Tryd.strings_Compare s1 s2 W)
  obtain ⟨x, hx⟩ : ∃ x, Lib.compareInt k1 k2 = x := ⟨_, rfl⟩
  obtain ⟨y, hy⟩ : ∃ y, Lib.compareInt n1 n2 = y := ⟨_, rfl⟩
  obtain ⟨z, hz⟩ : ∃ z, Lib.compareBytes s1.data.toList s2.data.toList = z := ⟨_, rfl⟩
  rw [hx] at HK hor
  rw [hy] at HN hor
  rw [hz] at HS hor
  have HO := Lib.hid hor
  have HOr := Lib.hid (fun W h => cmpOr_any (w.heap.size + 2) [x, y, z] W h (by simp))
  clear hx hy hz hor
  unfold valV
  have a0 : Box (W0.drew.alloc (.cells #[.int .i64 x, .int .i64 y, .int .i64 z] 3)) w.heap.size k1 n1 s1 := hbx0.below (B := W0.heap.size) (by rw [hsz0]; omega) (((Below.refl _ W0).drew).alloc (Nat.le_refl _) _)
  have a1 : Box (W0.drew.alloc (.cells #[.int .i64 x, .int .i64 y, .int .i64 z] 3)) (w.heap.size + 1) k2 n2 s2 := hbx1.below (B := W0.heap.size) (by rw [hsz0]; omega) (((Below.refl _ W0).drew).alloc (Nat.le_refl _) _)
  have c0 := hbx0.c0; have c1 := hbx0.c1; have c2 := hbx0.c2; have c3 := hbx1.c0; have c4 := hbx1.c1; have c5 := hbx1.c2
  have hRd : RdN (W0.drew.alloc (.cells #[.int .i64 x, .int .i64 y, .int .i64 z] 3)) ⟨w.heap.size + 2, 0, none⟩ [x, y, z] := rdN3 W0.drew x y z hsz0
  have bA : Below W0.heap.size W0 (W0.drew.alloc (.cells #[.int .i64 x, .int .i64 y, .int .i64 z] 3)) := ((Below.refl _ _).drew).alloc (Nat.le_refl _) _
  subst hW0
  go_enter Tryd.func14, Tryd.ntmps14
  go_wp2_with fail
  go_region_held3 (fun w' => w'.cell? { block := w.heap.size, off := 0 } = some (.int .i64 k1) ∧ w'.cell? { block := w.heap.size, off := 1 } = some (.int .i64 n1) ∧ w'.cell? { block := w.heap.size, off := 2 } = some (.string s1) ∧ w'.cell? { block := w.heap.size + 1, off := 0 } = some (.int .i64 k2) ∧ w'.cell? { block := w.heap.size + 1, off := 1 } = some (.int .i64 n2) ∧ w'.cell? { block := w.heap.size + 1, off := 2 } = some (.string s2))
    (first | exact ⟨y0.c0, y0.c1, y0.c2, y1.c0, y1.c1, y1.c2⟩ | exact ⟨c0, c1, c2, c3, c4, c5⟩ | exact ⟨a0.c0, a0.c1, a0.c2, a1.c0, a1.c1, a1.c2⟩ | exact ⟨by assumption, by assumption, by assumption, by assumption, by assumption, by assumption⟩)
    ((first
      | (go_at_call_of 34 (Value.int IntKind.i64 k1); refine (HK.out _).mono ?_; rintro e w5 ⟨rfl, rfl⟩)
      | (go_at_call_of 34 (Value.int IntKind.i64 n1); refine (HN.out _).mono ?_; rintro e w5 ⟨rfl, rfl⟩)
      | (go_at_call 35; refine (HS.out _).mono ?_; rintro e w5 ⟨rfl, rfl⟩)
      | (go_at_call 33; refine (HOr.out _ hRd).mono ?_; rintro e w5 ⟨rfl, b5⟩; have B5 := btV bA b5; have B6 : Below w.heap.size w w5 := btV hb0 B5; have y0 := hbx0.below (by omega) B5; have y1 := hbx1.below (by omega) B5)))
  go_wp2_with fail
  go_ret
  exact ⟨by rw [HO.out]; rfl, B6⟩
end Go.Proofs.YtkimibppfniejaaDoor
