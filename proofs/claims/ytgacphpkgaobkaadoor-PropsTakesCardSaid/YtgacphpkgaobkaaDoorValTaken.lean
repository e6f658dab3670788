/- What bytes begin with: the code's own Take. -/
import Derived.Test.YtgacphpkgaobkaaDoorValTake
import Derived.Test.YtgacphpkgaobkaaDoorValTold
import Derived.Laws.Bits64
set_option linter.unusedVariables false
namespace Go.Proofs.YtgacphpkgaobkaaDoor
open Go Go.RowKit

theorem URow.lenT {w : World} {B n : Nat} {v : Value} {bs : List UInt8} (h : URow w B v n bs) : bs.length = n := by
  have := h.1
  simpa using this
theorem URow.slice {w : World} {B : Nat} {v : Value} {bs : List UInt8} (h : URow w B v bs.length bs) : ∃ b cap, v = .slice b bs.length cap := by
  rcases URow.forms h with ⟨rfl, h0⟩ | ⟨g, cap, rfl⟩
  · exact ⟨none, 0, by rw [h0]⟩
  · exact ⟨_, cap, rfl⟩
theorem conv_rowT {w : World} {B n : Nat} {v : Value} {bs : List UInt8} (h : URow w B v n bs) :
    (convert 43 9 v).run Tryd.prog w = .ok (.string ⟨bs.toArray⟩) w := by
  have hl := h.lenT
  rcases URow.forms h with ⟨rfl, rfl⟩ | ⟨g, cap, rfl⟩
  · obtain rfl : bs = [] := List.length_eq_zero_iff.1 hl
    rw [run_convert_bytes_string w 43 9 5 none 0 0 Tryd.underlying43 Tryd.underlying5 Tryd.underlying9]
    rfl
  · subst hl
    refine run_convert_bytes_back (P := Tryd.prog) w 43 9 5 ⟨g, 0, none⟩ cap bs Tryd.underlying43 Tryd.underlying5 Tryd.underlying9 (fun j hj => ?_)
    exact World.ownsRow.cells h rfl j (u8v bs[j]) (by rw [List.getElem?_map, List.getElem?_eq_getElem hj]; rfl)
theorem or_byte (U z : Nat) (h1 : U ≤ 72057594037927935) (h2 : z < 256) : bits .or .u64 ((U : Int) * 256) (z : Int) = ((U * 256 + z : Nat) : Int) := by
  have e : (U : Int) * 256 = ((U * 256 : Nat) : Int) := by omega
  rw [e, bits_or_u64_nat _ _ (by omega) (by omega)]
  have h3 := Nat.two_pow_add_eq_or_of_lt (i := 8) (b := z) (by omega) U
  rw [show (2 : Nat) ^ 8 * U = U * 256 from by rw [Nat.mul_comm]] at h3
  rw [h3]
theorem xor_back (U : Nat) (h : U < 18446744073709551616) : wrap64 (bits .xor .u64 (U : Int) 9223372036854775808) = (U : Int) - 9223372036854775808 := by
  rw [show (9223372036854775808 : Int) = ((9223372036854775808 : Nat) : Int) from rfl, bits_xor_u64_nat _ _ h (by decide)]
  have h2 := xor_top U h
  rw [show (2 : Nat) ^ 63 = 9223372036854775808 from by decide, show (2 : Nat) ^ 64 = 18446744073709551616 from by decide] at h2
  rw [h2]
  unfold wrap64
  omega

set_option maxHeartbeats 2000000 in
set_option maxRecDepth 100000 in
theorem takeText_any (ad : Addr) (c : Nat) (r : List UInt8) (w : World) (h : RdB w (some ad) (2 :: r)) (hc : r.length + 1 ≤ c) (hlen : r.length ≤ 1000000) :
    Calls Tryd.prog 76 #[.slice (some ad) (r.length + 1) c] w fun e w' => e = .returned (tkV (takeS [] 1 r)) ∧ Below w.heap.size w w' := by
  have HRd := Lib.hid h
  clear h
  obtain ⟨i0, hi, hz0, hz1, hz2⟩ := info_parts byte_infoV
  have hb0 : Below w.heap.size w (w.alloc (.cells #[.int .i64 0, .int .i64 0, .string ⟨#[]⟩] 36)) := (Below.refl _ _).alloc (Nat.le_refl _) _
  have HRd1 := Lib.hid (HRd.out.below (Nat.le_refl _) hb0)
  have hsz0 : (w.alloc (.cells #[.int .i64 0, .int .i64 0, .string ⟨#[]⟩] 36)).heap.size = w.heap.size + 1 := by simp
  have HRes := Lib.hid (Res.new w)
  go_enter Tryd.func76, Tryd.ntmps76
  go_wp2_with fail
  go_loopw [5, 6] (fun x i wr => ∃ (acc : List UInt8) (j : Nat) (v : Value), x = v ∧ i = .int .i64 ((j + 1 : Nat) : Int) ∧ j ≤ r.length ∧ acc.length ≤ 200 ∧ takeS acc (j + 1) (r.drop j) = takeS [] 1 r ∧ URow wr (w.heap.size + 1) v acc.length acc ∧ Below (w.heap.size + 1) (w.alloc (.cells #[.int .i64 0, .int .i64 0, .string ⟨#[]⟩] 36)) wr) (fun _ i _ => r.length + 1 - (intOf i).toNat)
  case atStart => exact ⟨[], 0, _, rfl, rfl, by omega, by simp, by simp, World.ownsRow_nil _ _ _ _, Below.refl _ _⟩
  case round =>
    obtain ⟨acc, j, v, rfl, rfl, hj, hal, hacc, hrow, hbw⟩ := hrel
    have hbs : w.heap.size + 1 ≤ wr.heap.size := by have := hbw.size; rw [hsz0] at this; exact this
    have hres := HRes.out.block (hbw.block _ (by omega))
    have HResW := Lib.hid hres
    have HBW := Lib.hid (hb0.trans (hbw.mono (Nat.le_succ w.heap.size)))
    clear hres
    have HA := Lib.hid hacc
    clear hacc
    have hcv := conv_rowT hrow
    have HRow := Lib.hid hrow
    obtain ⟨L, hL⟩ : ∃ L, acc.length = L := ⟨_, rfl⟩
    obtain ⟨b, cap, rfl⟩ := URow.slice hrow
    obtain ⟨S, hS⟩ : ∃ S : ByteArray, (⟨acc.toArray⟩ : ByteArray) = S := ⟨_, rfl⟩
    rw [hS] at hcv
    rw [hL] at hcv hal HRow ⊢
    have HLn := Lib.hid hL
    have HS := Lib.hid hS
    clear hS hL hrow
    by_cases hlt : j < r.length
    · have hrdw := HRd1.out.below (by rw [hsz0]; exact Nat.le_refl _) hbw
      obtain ⟨ad', he, hblk, hcj⟩ := hrdw (j + 1) (by simp; omega)
      obtain rfl : ad = ad' := by injection he
      clear he
      have hg : (2 :: r).getD (j + 1) 0 = r.getD j 0 := by simp
      rw [hg] at hcj
      obtain ⟨y, hy⟩ : ∃ y, r.getD j 0 = y := ⟨_, rfl⟩
      rw [hy] at hcj
      unfold u8v at hcj
      have hdr : r.drop j = y :: r.drop (j + 1) := by
        rw [List.drop_eq_getElem_cons hlt, ← hy]
        simp [List.getD_eq_getElem?_getD, List.getElem?_eq_getElem hlt]
      have hyb := y.toNat_lt
      have HD : Hid (takeS acc (j + 1) (y :: r.drop (j + 1)) = takeS [] 1 r) := Lib.hid (by rw [← hdr]; exact HA.out)
      clear hdr hy hg HA
      obtain ⟨z, hz⟩ : ∃ z, y.toNat = z := ⟨_, rfl⟩
      rw [hz] at hcj hyb
      have hcj2 : wr.cell? { block := ad.block, off := ad.off + (j + 1) } = some (.int .u8 (z : Int)) := by simpa [Addr.add] using hcj
      have huv : [y].map u8v = [Value.int .u8 (z : Int)] := by unfold u8v; rw [List.map_cons, hz]; rfl
      have HUv := Lib.hid huv
      clear hcj huv
      by_cases y0 : y = 0
      · have hz0' : z = 0 := by rw [← hz, y0]; rfl
        have e0 : ((z : Int) == 0) = true := by simp [hz0']
        clear hz hz0'
        by_cases hend : j + 1 < r.length
        · obtain ⟨ad', he, _, hcd⟩ := hrdw (j + 1 + 1) (by simp; omega)
          obtain rfl : ad = ad' := by injection he
          clear he
          have hg : (2 :: r).getD (j + 1 + 1) 0 = r.getD (j + 1) 0 := by simp
          rw [hg] at hcd
          obtain ⟨d, hd⟩ : ∃ d, r.getD (j + 1) 0 = d := ⟨_, rfl⟩
          rw [hd] at hcd
          unfold u8v at hcd
          have hdr : r.drop (j + 1) = d :: r.drop (j + 2) := by
            rw [List.drop_eq_getElem_cons hend, ← hd]
            simp [List.getD_eq_getElem?_getD, List.getElem?_eq_getElem hend]
          have hdb := d.toNat_lt
          have HE : Hid (takeS acc (j + 1) (0 :: d :: r.drop (j + 2)) = takeS [] 1 r) := Lib.hid (by rw [← hdr, ← y0]; exact HD.out)
          have hne : ((j : Int) + 1 + 1 == (r.length : Int) + 1) = false := by simp; omega
          clear hdr hd hg HD
          obtain ⟨x, hx⟩ : ∃ x, d.toNat = x := ⟨_, rfl⟩
          rw [hx] at hcd hdb
          have hcd2 : wr.cell? { block := ad.block, off := ad.off + (j + 1 + 1) } = some (.int .u8 (x : Int)) := by simpa [Addr.add] using hcd
          clear hcd
          by_cases d0 : d = 0
          · have hx0 : x = 0 := by rw [← hx, d0]; rfl
            have e1 : ((x : Int) == 0) = true := by simp [hx0]
            have hout : takeS [] 1 r = .ok acc (j + 1 + 2) := by rw [← HE.out, d0]; simp [takeS]
            clear hx hx0 d0 HE y0
            have HO := Lib.hid hout
            clear hout
            obtain ⟨r0, r1, r2, q0, q1, q2⟩ := HResW.out
            go_wp2_with fail
            have s0 := fun x => (Res.set HResW.out x x x).1
            have s1 := fun x y => (Res.set HResW.out x y y).2.1
            have s2 := fun x y z => (Res.set HResW.out x y z).2.2
            exact bodyPost_ret (v := (.tuple #[valV 2 0 S, .int .i64 ((j + 1 + 2 : Nat) : Int), .int .i64 0])) (by simp [results, Tryd.results76, go_sem, valV, s0, s1, s2]; omega) rfl ⟨by rw [HO.out, ← HS.out]; rfl, (((HBW.out).setCell (p := ⟨w.heap.size, 0, none⟩) (Nat.le_refl _) _).setCell (p := ⟨w.heap.size, 1, none⟩) (Nat.le_refl _) _).setCell (p := ⟨w.heap.size, 2, none⟩) (Nat.le_refl _) _⟩
          · have d1 : x ≠ 0 := fun h => d0 (UInt8.toNat_inj.1 (hx.trans h))
            have e1 : ((x : Int) == 0) = false := by simp; omega
            by_cases d255 : d = 255
            · have hx5 : x = 255 := by rw [← hx, d255]; rfl
              have e2 : ((x : Int) != 255) = false := by simp [hx5]
              by_cases hfull : L = 200
              · have hout : takeS [] 1 r = .no 32 := by rw [← HE.out, d255]; simp [takeS, HLn.out, hfull]
                clear hx hx5 d255 HE y0 d0 d1
                have HO := Lib.hid hout
                have efull : ((L : Int) == 200) = true := by simp [hfull]
                have HFull := Lib.hid hfull
                clear hout hfull
                obtain ⟨r0, r1, r2, q0, q1, q2⟩ := HResW.out
                go_wp2_with fail
                have s0 := fun x => (Res.set HResW.out x x x).1
                have s1 := fun x y => (Res.set HResW.out x y y).2.1
                have s2 := fun x y z => (Res.set HResW.out x y z).2.2
                exact bodyPost_ret (v := noV 32) (by simp [results, Tryd.results76, go_sem, noV, valV, s0, s1, s2]) rfl ⟨by rw [HO.out]; rfl, (((HBW.out).setCell (p := ⟨w.heap.size, 0, none⟩) (Nat.le_refl _) _).setCell (p := ⟨w.heap.size, 1, none⟩) (Nat.le_refl _) _).setCell (p := ⟨w.heap.size, 2, none⟩) (Nat.le_refl _) _⟩
              · have hnx : takeS (acc ++ [y]) (j + 2 + 1) (r.drop (j + 2)) = takeS [] 1 r := by
                  have hf2 : ¬ 200 ≤ L := by omega
                  rw [← HE.out, d255, y0]
                  simp [takeS, HLn.out, hf2]
                have HNx := Lib.hid hnx
                have efull : ((L : Int) == 200) = false := by simp; omega
                clear hx hx5 d255 HE y0 d0 d1 hnx
                have HResN := HResW
                go_wp2_with (at_builtin; refine wpList_append_own _ rfl _ _ 43 rfl (w.heap.size + 1) 5 i0 (.int .u8 0) 1 1 Tryd.underlying43 hi hz0 hz1 hz2 rfl (by decide) _ _ _ rfl (HRow.out.alloc _) ⟨wr.heap.size, 0, none⟩ 1 1 [.int .u8 (z : Int)] rfl rfl ?a4 ?b4 ?c4 ?d4 ?e4 ?_)
                try (case a4 => exact (World.ownsRow_lit (base := wr.heap.size) (e := 5) (size := 1) wr #[.int .u8 (z : Int)] 1 (Nat.le_refl _) (by decide) rfl).cells rfl)
                try (case b4 => intro u' hu'; simp at hu'; subst hu'; rfl)
                try (case c4 => unfold maxLen; omega)
                try (case d4 => omega)
                try (case e4 => simp; omega)
                intro v' w4 hown' hgrow _
                have hbw4 : Below (w.heap.size + 1) (w.alloc (.cells #[.int .i64 0, .int .i64 0, .string ⟨#[]⟩] 36)) w4 := (hbw.alloc (by omega) _).grown hgrow (by simp; omega) (fun k' hk' => (HRow.out.lt k' hk').1)
                go_wp2_with fail
                go_roundw
                case rel =>
                  exact ⟨acc ++ [y], j + 2, v', rfl, by go_num, by omega, by rw [List.length_append, HLn.out]; simp only [List.length_cons, List.length_nil]; omega, HNx.out, by
                    unfold URow
                    rw [List.length_append, HLn.out, List.map_append, HUv.out]
                    exact hown', hbw4⟩
                case measure => simp [intOf]; omega
            · have hx5 : x ≠ 255 := fun h => d255 (UInt8.toNat_inj.1 (hx.trans h))
              have e2 : ((x : Int) != 255) = true := by simp; omega
              have hout : takeS [] 1 r = .no 10 := by rw [← HE.out]; simp [takeS, d0, d255]
              clear hx hx5 d255 HE y0 d0 d1
              have HO := Lib.hid hout
              clear hout
              obtain ⟨r0, r1, r2, q0, q1, q2⟩ := HResW.out
              go_wp2_with fail
              have s0 := fun x => (Res.set HResW.out x x x).1
              have s1 := fun x y => (Res.set HResW.out x y y).2.1
              have s2 := fun x y z => (Res.set HResW.out x y z).2.2
              exact bodyPost_ret (v := noV 10) (by simp [results, Tryd.results76, go_sem, noV, valV, s0, s1, s2]) rfl ⟨by rw [HO.out]; rfl, (((HBW.out).setCell (p := ⟨w.heap.size, 0, none⟩) (Nat.le_refl _) _).setCell (p := ⟨w.heap.size, 1, none⟩) (Nat.le_refl _) _).setCell (p := ⟨w.heap.size, 2, none⟩) (Nat.le_refl _) _⟩
        · have hl : r.drop (j + 1) = [] := List.drop_eq_nil_of_le (by omega)
          have hout : takeS [] 1 r = .no 20 := by rw [← HD.out, hl, y0]; simp [takeS]
          have hne : ((j : Int) + 1 + 1 == (r.length : Int) + 1) = true := by simp; omega
          clear hl y0
          have HO := Lib.hid hout
          clear hout
          obtain ⟨r0, r1, r2, q0, q1, q2⟩ := HResW.out
          go_wp2_with fail
          have s0 := fun x => (Res.set HResW.out x x x).1
          have s1 := fun x y => (Res.set HResW.out x y y).2.1
          have s2 := fun x y z => (Res.set HResW.out x y z).2.2
          exact bodyPost_ret (v := noV 20) (by simp [results, Tryd.results76, go_sem, noV, valV, s0, s1, s2]) rfl ⟨by rw [HO.out]; rfl, (((HBW.out).setCell (p := ⟨w.heap.size, 0, none⟩) (Nat.le_refl _) _).setCell (p := ⟨w.heap.size, 1, none⟩) (Nat.le_refl _) _).setCell (p := ⟨w.heap.size, 2, none⟩) (Nat.le_refl _) _⟩
      · have hz0' : z ≠ 0 := fun h => y0 (UInt8.toNat_inj.1 (hz.trans h))
        have e0 : ((z : Int) == 0) = false := by simp; omega
        have h1 := takeS_other y0 acc (j + 1) (r.drop (j + 1))
        rw [HD.out, HLn.out] at h1
        by_cases hfull : L = 200
        · rw [if_pos (by omega)] at h1
          have HO := Lib.hid h1
          have efull : ((L : Int) == 200) = true := by simp [hfull]
          have HFull := Lib.hid hfull
          clear h1 hz y0 hfull
          obtain ⟨r0, r1, r2, q0, q1, q2⟩ := HResW.out
          go_wp2_with fail
          have s0 := fun x => (Res.set HResW.out x x x).1
          have s1 := fun x y => (Res.set HResW.out x y y).2.1
          have s2 := fun x y z => (Res.set HResW.out x y z).2.2
          exact bodyPost_ret (v := noV 32) (by simp [results, Tryd.results76, go_sem, noV, valV, s0, s1, s2]) rfl ⟨by rw [HO.out]; rfl, (((HBW.out).setCell (p := ⟨w.heap.size, 0, none⟩) (Nat.le_refl _) _).setCell (p := ⟨w.heap.size, 1, none⟩) (Nat.le_refl _) _).setCell (p := ⟨w.heap.size, 2, none⟩) (Nat.le_refl _) _⟩
        · rw [if_neg (by omega)] at h1
          have HNx := Lib.hid h1.symm
          have efull : ((L : Int) == 200) = false := by simp; omega
          clear h1 hz y0
          go_wp2_with (at_builtin; refine wpList_append_own _ rfl _ _ 43 rfl (w.heap.size + 1) 5 i0 (.int .u8 0) 1 1 Tryd.underlying43 hi hz0 hz1 hz2 rfl (by decide) _ _ _ rfl (HRow.out.alloc _) ⟨wr.heap.size, 0, none⟩ 1 1 [.int .u8 (z : Int)] rfl rfl ?a5 ?b5 ?c5 ?d5 ?e5 ?_)
          try (case a5 => exact (World.ownsRow_lit (base := wr.heap.size) (e := 5) (size := 1) wr #[.int .u8 (z : Int)] 1 (Nat.le_refl _) (by decide) rfl).cells rfl)
          try (case b5 => intro u' hu'; simp at hu'; subst hu'; rfl)
          try (case c5 => unfold maxLen; omega)
          try (case d5 => omega)
          try (case e5 => simp; omega)
          intro v' w4 hown' hgrow _
          have hbw4 : Below (w.heap.size + 1) (w.alloc (.cells #[.int .i64 0, .int .i64 0, .string ⟨#[]⟩] 36)) w4 := (hbw.alloc (by omega) _).grown hgrow (by simp; omega) (fun k' hk' => (HRow.out.lt k' hk').1)
          go_wp2_with fail
          go_roundw
          case rel =>
            exact ⟨acc ++ [y], j + 1, v', rfl, by go_num, by omega, by rw [List.length_append, HLn.out]; simp only [List.length_cons, List.length_nil]; omega, HNx.out, by
              unfold URow
              rw [List.length_append, HLn.out, List.map_append, HUv.out]
              exact hown', hbw4⟩
          case measure => simp [intOf]; omega
    · obtain rfl : j = r.length := by omega
      have hout : takeS [] 1 r = .no 20 := by rw [← HA.out, List.drop_eq_nil_of_le (Nat.le_refl _)]; cases acc <;> rfl
      have HO := Lib.hid hout
      clear hout
      obtain ⟨r0, r1, r2, q0, q1, q2⟩ := HResW.out
      go_wp2_with fail
      have s0 := fun x => (Res.set HResW.out x x x).1
      have s1 := fun x y => (Res.set HResW.out x y y).2.1
      have s2 := fun x y z => (Res.set HResW.out x y z).2.2
      exact bodyPost_ret (v := noV 20) (by simp [results, Tryd.results76, go_sem, noV, valV, s0, s1, s2]) rfl ⟨by rw [HO.out]; rfl, (((HBW.out).setCell (p := ⟨w.heap.size, 0, none⟩) (Nat.le_refl _) _).setCell (p := ⟨w.heap.size, 1, none⟩) (Nat.le_refl _) _).setCell (p := ⟨w.heap.size, 2, none⟩) (Nat.le_refl _) _⟩

set_option maxHeartbeats 2000000 in
set_option maxRecDepth 100000 in
theorem takeInt_any (ad : Addr) (c : Nat) (r : List UInt8) (w : World) (h : RdB w (some ad) (1 :: r)) (hc : r.length + 1 ≤ c) (hlen : r.length ≤ 1000000) :
    Calls Tryd.prog 75 #[.slice (some ad) (r.length + 1) c] w fun e w' => e = .returned (takeV (1 :: r)) ∧ Below w.heap.size w w' := by
  have HRd := Lib.hid h
  clear h
  have hb0 : Below w.heap.size w (w.alloc (.cells #[.int .i64 0, .int .i64 0, .string ⟨#[]⟩] 36)) := (Below.refl _ _).alloc (Nat.le_refl _) _
  have HRd1 := Lib.hid (HRd.out.below (Nat.le_refl _) hb0)
  have hsz0 : (w.alloc (.cells #[.int .i64 0, .int .i64 0, .string ⟨#[]⟩] 36)).heap.size = w.heap.size + 1 := by simp
  by_cases c2 : r.length < 8
  · have HT : Hid (takeV (1 :: r) = noV 20) := Lib.hid (by simp [takeV, c2])
    go_enter Tryd.func75, Tryd.ntmps75
    go_wp2_with fail
    exact bodyPost_ret (v := noV 20) (by simp [results, Tryd.results75, go_sem, noV, valV]) rfl ⟨by rw [HT.out], hb0⟩
  · have HT : Hid (takeV (1 :: r) = .tuple #[valV 1 ((valN 0 (r.take 8) : Int) - 9223372036854775808) ⟨#[]⟩, .int .i64 9, .int .i64 0]) := Lib.hid (by simp [takeV, c2])
    have hd9 : decide ((r.length : Int) + 1 < 9) = false := by simp; omega
    go_enter Tryd.func75, Tryd.ntmps75
    go_wp2_with fail
    go_loop [5, 15] (fun u i => ∃ (j U : Nat), u = .int .u64 (U : Int) ∧ i = .int .i64 (j : Nat) ∧ j ≤ 8 ∧ U = valN 0 (r.take j) ∧ U < 256 ^ j) (fun _ i => 9 - (intOf i).toNat)
    case atStart => exact ⟨0, 0, rfl, rfl, by omega, rfl, by decide⟩
    case round =>
      obtain ⟨j, U, rfl, rfl, hj, hU, hUb⟩ := hrel
      have HU := Lib.hid hU
      have HUb := Lib.hid hUb
      clear hU hUb
      by_cases hlt : j < 8
      · obtain ⟨ad', he, hcj⟩ := HRd1.out.at1 (k := j + 1) (by simp; omega)
        obtain rfl : ad = ad' := by injection he
        clear he
        have hg : (1 :: r).getD (j + 1) 0 = r.getD j 0 := by simp
        rw [hg] at hcj
        obtain ⟨y, hy⟩ : ∃ y, r.getD j 0 = y := ⟨_, rfl⟩
        rw [hy] at hcj
        unfold u8v at hcj
        have htk : r.take (j + 1) = r.take j ++ [y] := by
          rw [List.take_succ_eq_append_getElem (show j < r.length by omega), ← hy]
          simp [List.getD_eq_getElem?_getD, List.getElem?_eq_getElem (show j < r.length by omega)]
        have hyb := y.toNat_lt
        obtain ⟨z, hz⟩ : ∃ z, y.toNat = z := ⟨_, rfl⟩
        rw [hz] at hcj hyb
        rw [show ad.add (j + 1) = { block := ad.block, off := ad.off + 1 + j } from by unfold Addr.add; rw [if_neg (by omega), show ad.off + (j + 1) = ad.off + 1 + j from by omega]] at hcj
        have hUn : U * 256 + z = valN 0 (r.take (j + 1)) := by rw [htk, valN_snoc, ← HU.out, hz]
        have hUs : U ≤ 72057594037927935 := by
          have h1 : 256 ^ j ≤ 256 ^ 7 := Nat.pow_le_pow_right (by decide) (by omega)
          have h2 : (256 : Nat) ^ 7 = 72057594037927936 := by decide
          have := HUb.out
          omega
        have hUb2 : U * 256 + z < 256 ^ (j + 1) := by
          have := HUb.out
          rw [Nat.pow_succ]
          omega
        have hor := or_byte U z hUs hyb
        have HOr := Lib.hid hor
        have HUn := Lib.hid hUn
        have HUb2 := Lib.hid hUb2
        clear hUn hUb2 htk hg hy hz HUb hor
        go_wp2_with fail
        go_round
        case rel => exact ⟨j + 1, U * 256 + z, congrArg (Value.int .u64) HOr.out, by go_num, by omega, HUn.out, HUb2.out⟩
        case measure => simp [intOf]; omega
      · obtain rfl : j = 8 := by omega
        have hU8 : U ≤ 18446744073709551615 := by
          have h2 : (256 : Nat) ^ 8 = 18446744073709551616 := by decide
          have := HUb.out
          omega
        have hxor := xor_back U (by omega)
        have HX := Lib.hid hxor
        clear hxor
        go_wp2_with fail
        exact bodyPost_ret (v := .tuple #[valV 1 ((U : Int) - 9223372036854775808) ⟨#[]⟩, .int .i64 9, .int .i64 0]) (by simp [results, Tryd.results75, go_sem, valV, HX.out]) rfl ⟨by rw [HT.out, ← HU.out], (Below.refl _ _).alloc (Nat.le_refl _) _⟩

set_option maxHeartbeats 2000000 in
set_option maxRecDepth 100000 in
theorem valTake_any (A : Option Addr) (c : Nat) (bs : List UInt8) (w : World) (h : RdB w A bs) (hc : bs.length ≤ c) (hlen : bs.length ≤ 1000000) :
    Calls Tryd.prog 64 #[.slice A bs.length c] w fun e w' => e = .returned (takeV bs) ∧ Below w.heap.size w w' := by
  have HRd := Lib.hid h
  clear h
  have hb0 : Below w.heap.size w (w.alloc (.cells #[.int .i64 0, .int .i64 0, .string ⟨#[]⟩] 36)) := (Below.refl _ _).alloc (Nat.le_refl _) _
  have hsz0 : (w.alloc (.cells #[.int .i64 0, .int .i64 0, .string ⟨#[]⟩] 36)).heap.size = w.heap.size + 1 := by simp
  cases bs with
  | nil =>
    go_enter Tryd.func64, Tryd.ntmps64
    go_wp2_with fail
    exact bodyPost_ret (v := noV 20) (by simp [results, Tryd.results64, go_sem, noV, valV]) rfl ⟨rfl, hb0⟩
  | cons b r =>
    have HRd1 := Lib.hid (HRd.out.below (Nat.le_refl _) hb0)
    obtain ⟨ad, rfl, hcell⟩ := HRd1.out.at1 (k := 0) (by simp)
    have hcell0 : (w.alloc (.cells #[.int .i64 0, .int .i64 0, .string ⟨#[]⟩] 36)).cell? ad = some (.int .u8 (b.toNat : Int)) := by simpa [Addr.add, u8v] using hcell
    clear hcell
    have hlb : (b :: r).length = r.length + 1 := rfl
    rw [hlb] at hc hlen ⊢
    clear hlb
    have hx0 := b.toNat_lt
    have HRes := Lib.hid (Res.new w)
    have hn0 : ((r.length : Int) + 1 == 0) = false := by simp; omega
    by_cases c1 : b = 1
    · subst c1
      have hI := fun W hW => takeInt_any ad c r W hW hc (by omega)
      obtain ⟨k, n, s, m, e, hVV⟩ : ∃ k n s m e, takeV (1 :: r) = .tuple #[valV k n s, .int .i64 m, .int .i64 e] := by
        by_cases h8 : r.length < 8
        · exact ⟨0, 0, ⟨#[]⟩, 0, 20, by simp [takeV, h8, noV]⟩
        · exact ⟨1, (valN 0 (r.take 8) : Int) - 9223372036854775808, ⟨#[]⟩, 9, 0, by simp [takeV, h8]⟩
      rw [hVV] at hI ⊢
      unfold valV at hI ⊢
      have HI := Lib.hid hI
      clear hI hVV
      go_enter Tryd.func64, Tryd.ntmps64
      go_wp2_with fail
      refine (HI.out _ HRd1.out).mono ?_
      rintro e' w1 ⟨rfl, b1⟩
      have HRes1 := Lib.hid (HRes.out.block (b1.block w.heap.size (by rw [hsz0]; omega)))
      obtain ⟨r0, r1, r2, q0, q1, q2⟩ := HRes1.out
      go_wp2_with fail
      have s0 := fun x => (Res.set HRes1.out x x x).1
      have s1 := fun x y => (Res.set HRes1.out x y y).2.1
      have s2 := fun x y z => (Res.set HRes1.out x y z).2.2
      exact bodyPost_ret (v := (.tuple #[.agg #[.int .i64 k, .int .i64 n, .string s], .int .i64 m, .int .i64 e])) (by simp [results, Tryd.results64, go_sem, s0, s1, s2]) rfl ⟨rfl, (((btV hb0 b1).setCell (p := ⟨w.heap.size, 0, none⟩) (Nat.le_refl _) _).setCell (p := ⟨w.heap.size, 1, none⟩) (Nat.le_refl _) _).setCell (p := ⟨w.heap.size, 2, none⟩) (Nat.le_refl _) _⟩
    · by_cases c2 : b = 2
      · subst c2
        have hI := fun W hW => takeText_any ad c r W hW hc (by omega)
        obtain ⟨k, n, s, m, e, hVV⟩ : ∃ k n s m e, tkV (takeS [] 1 r) = .tuple #[valV k n s, .int .i64 m, .int .i64 e] := by
          cases takeS [] 1 r with
          | ok s n => exact ⟨_, _, _, _, _, rfl⟩
          | no e => exact ⟨_, _, _, _, _, rfl⟩
        have HT : Hid (takeV (2 :: r) = .tuple #[valV k n s, .int .i64 m, .int .i64 e]) := Lib.hid (by rw [← hVV]; simp [takeV])
        rw [hVV] at hI
        unfold valV at hI
        have HI := Lib.hid hI
        clear hI hVV
        go_enter Tryd.func64, Tryd.ntmps64
        go_wp2_with fail
        refine (HI.out _ HRd1.out).mono ?_
        rintro e' w1 ⟨rfl, b1⟩
        have HRes1 := Lib.hid (HRes.out.block (b1.block w.heap.size (by rw [hsz0]; omega)))
        obtain ⟨r0, r1, r2, q0, q1, q2⟩ := HRes1.out
        go_wp2_with fail
        have s0 := fun x => (Res.set HRes1.out x x x).1
        have s1 := fun x y => (Res.set HRes1.out x y y).2.1
        have s2 := fun x y z => (Res.set HRes1.out x y z).2.2
        exact bodyPost_ret (v := (.tuple #[.agg #[.int .i64 k, .int .i64 n, .string s], .int .i64 m, .int .i64 e])) (by simp [results, Tryd.results64, go_sem, s0, s1, s2]) rfl ⟨by rw [HT.out]; rfl, (((btV hb0 b1).setCell (p := ⟨w.heap.size, 0, none⟩) (Nat.le_refl _) _).setCell (p := ⟨w.heap.size, 1, none⟩) (Nat.le_refl _) _).setCell (p := ⟨w.heap.size, 2, none⟩) (Nat.le_refl _) _⟩
      · have HT : Hid (takeV (b :: r) = noV 22) := Lib.hid (by simp [takeV, c1, c2])
        have e1 : ((b.toNat : Int) == 1) = false := by
          have : b.toNat ≠ 1 := fun h => c1 (UInt8.toNat_inj.1 (h.trans rfl))
          simp; omega
        have e2 : ((b.toNat : Int) == 2) = false := by
          have : b.toNat ≠ 2 := fun h => c2 (UInt8.toNat_inj.1 (h.trans rfl))
          simp; omega
        obtain ⟨x, hx⟩ : ∃ x, b.toNat = x := ⟨_, rfl⟩
        rw [hx] at hcell0 hx0 e1 e2
        clear hx c1 c2
        go_enter Tryd.func64, Tryd.ntmps64
        go_wp2_with fail
        exact bodyPost_ret (v := noV 22) (by simp [results, Tryd.results64, go_sem, noV, valV]) rfl ⟨by rw [HT.out], hb0⟩
end Go.Proofs.YtgacphpkgaobkaaDoor
