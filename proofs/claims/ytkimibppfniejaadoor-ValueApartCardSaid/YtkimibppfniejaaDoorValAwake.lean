/- The document's examples, run; what the walks of the laws on values have in common. -/
import Derived.Test.YtkimibppfniejaaDoorValRead
import Derived.Test.YtkimibppfniejaaDoorValBroke
import Derived.Test.YtkimibppfniejaaDoorValTake
set_option linter.unusedVariables false
namespace Go.Proofs.YtkimibppfniejaaDoor
open Go Go.RowKit

theorem URow.len {w : World} {B n : Nat} {v : Value} {bs : List UInt8} (h : URow w B v n bs) : bs.length = n := by
  have := h.1
  simpa using this
theorem URow.below {w w' : World} {B n : Nat} {v : Value} {bs : List UInt8} (h : URow w B v n bs) (hb : Below w.heap.size w w') : URow w' B v n bs := by
  unfold URow at h ⊢
  refine ⟨h.1, ?_⟩
  rcases h.2 with h2 | ⟨g, cap, cur, h1, h2, h3, h4⟩
  · exact .inl h2
  · refine .inr ⟨g, cap, cur, h1, h2, ?_, h4⟩
    have hlt : g < w.heap.size := by
      rcases Nat.lt_or_ge g w.heap.size with h5 | h5
      · exact h5
      · rw [Array.getElem?_eq_none h5] at h3
        cases h3
    rw [hb.block g hlt]
    exact h3
theorem conv_row {w : World} {B n : Nat} {v : Value} {bs : List UInt8} (h : URow w B v n bs) :
    (convert 36 9 v).run Tryd.prog w = .ok (.string ⟨bs.toArray⟩) w := by
  have hl := h.len
  rcases URow.forms h with ⟨rfl, rfl⟩ | ⟨g, cap, rfl⟩
  · obtain rfl : bs = [] := List.length_eq_zero_iff.1 hl
    rw [run_convert_bytes_string w 36 9 5 none 0 0 Tryd.underlying36 Tryd.underlying5 Tryd.underlying9]
    rfl
  · subst hl
    refine run_convert_bytes_back (P := Tryd.prog) w 36 9 5 ⟨g, 0, none⟩ cap bs Tryd.underlying36 Tryd.underlying5 Tryd.underlying9 (fun j hj => ?_)
    exact World.ownsRow.cells h rfl j (u8v bs[j]) (by rw [List.getElem?_map, List.getElem?_eq_getElem hj]; rfl)
theorem num_any (n : Int) (w : World) : Calls Tryd.prog 21 #[.int .i64 n] w fun e w' => e = .returned (valV 1 n ⟨#[]⟩) ∧ Below w.heap.size w w' := by
  obtain ⟨r0, r1, r2, q0, q1, q2⟩ := Res.new w
  go_enter Tryd.func21, Tryd.ntmps21
  go_wp2
  exact bodyPost_ret (v := valV 1 n ⟨#[]⟩) (by simp [results, Tryd.results21, go_sem, valV]) rfl ⟨rfl, (Below.refl _ _).alloc (Nat.le_refl _) _⟩
theorem text_any (s : ByteArray) (w : World) : Calls Tryd.prog 22 #[.string s] w fun e w' => e = .returned (valV 2 0 s) ∧ Below w.heap.size w w' := by
  obtain ⟨r0, r1, r2, q0, q1, q2⟩ := Res.new w
  go_enter Tryd.func22, Tryd.ntmps22
  go_wp2
  exact bodyPost_ret (v := valV 2 0 s) (by simp [results, Tryd.results22, go_sem, valV]) rfl ⟨rfl, (Below.refl _ _).alloc (Nat.le_refl _) _⟩
theorem aw_b1 : bytesR 1 1 ⟨#[]⟩ = [1, 128, 0, 0, 0, 0, 0, 0, 1] := by decide +kernel
theorem aw_b2 : bytesR 2 0 ⟨#[97]⟩ = [2, 97, 0, 0] := by decide +kernel
theorem aw_e1 : thingE 1 1 ⟨#[]⟩ = 0 := by decide +kernel
theorem aw_e2 : thingE 2 0 ⟨#[97]⟩ = 0 := by decide +kernel
theorem aw_p1 : printR 1 (-5) ⟨#[]⟩ = ⟨#[45, 53]⟩ := by decide +kernel
theorem aw_p2 : printR 2 0 ⟨#[97]⟩ = ⟨#[34, 97, 34]⟩ := by decide +kernel
theorem aw_m : meantV ⟨#[45, 48]⟩ = (1, 0, ⟨#[]⟩) := by decide +kernel
theorem aw_p3 : printR 1 0 ⟨#[]⟩ ≠ ⟨#[45, 48]⟩ := by decide +kernel
theorem aw_r : readV ⟨#[45, 48]⟩ = (0, 0, ⟨#[]⟩) ∧ readE ⟨#[45, 48]⟩ = 10 := readV_no aw_m (.inr aw_p3)
theorem aw_n : isIntV 1 ⟨#[]⟩ = true := by decide +kernel

set_option maxHeartbeats 2000000 in
set_option maxRecDepth 100000 in
theorem awake_any (w : World) (hw : Std w) : Calls Tryd.prog 9 #[] w fun e w' => e = .returned (.bool true) ∧ Below w.heap.size w w' := by
  have hN := fun n W => num_any n W
  have hX := fun s W => text_any s W
  have h1 := fun W => valBytes_any 1 1 ⟨#[]⟩ W (by decide) (by decide)
  have h2 := fun W => valBytes_any 2 0 ⟨#[97]⟩ W (by decide) (by decide)
  have h3 := fun W hW => read_any ⟨#[45, 48]⟩ W (by decide) hW
  have h4 := fun W hW => print_any 1 (-5) ⟨#[]⟩ W hW (by decide) (by decide)
  have h5 := fun W hW => print_any 2 0 ⟨#[97]⟩ W hW (by decide) (by decide)
  have h6 := fun W => number_ok 1 7 ⟨#[]⟩ W aw_n
  unfold ValBytesPost at h1 h2
  simp only [aw_b1, aw_e1] at h1
  simp only [aw_b2, aw_e2] at h2
  simp only [aw_r.1, aw_r.2] at h3
  simp only [aw_p1] at h4
  simp only [aw_p2] at h5
  unfold valV at hN hX h1 h2 h3 h4 h5 h6
  have HN := Lib.hid hN; have HX := Lib.hid hX; have H1 := Lib.hid h1; have H2 := Lib.hid h2; have H3 := Lib.hid h3; have H4 := Lib.hid h4; have H5 := Lib.hid h5; have H6 := Lib.hid h6
  clear hN hX h1 h2 h3 h4 h5 h6
  go_enter Tryd.func9, Tryd.ntmps9
  go_wp2_with fail
  refine (HN.out _ _).mono ?_
  rintro e x1 ⟨rfl, a1⟩
  go_wp2_with fail
  refine (H1.out _).mono ?_
  rintro e w1 ⟨v1, rfl, hv1, b1⟩
  obtain ⟨g1, k1, rfl⟩ := URow.form hv1 (by decide)
  have B1 := btV a1 b1
  go_wp2_with fail
  refine (HX.out _ _).mono ?_
  rintro e x2 ⟨rfl, a2⟩
  go_wp2_with fail
  refine (H2.out _).mono ?_
  rintro e w2 ⟨v2, rfl, hv2, b2⟩
  obtain ⟨g2, k2, rfl⟩ := URow.form hv2 (by decide)
  have B2 := btV (btV B1 a2) b2
  go_wp2_with fail
  refine (H3.out _ (hw.below B2)).mono ?_
  rintro e w3 ⟨rfl, b3⟩
  have B3 := btV B2 b3
  have b3a : Below w2.heap.size w2 (w3.alloc (.cells #[.int .i64 0, .int .i64 0, .string ⟨#[]⟩] 23)) := b3.alloc b3.size _
  have B3a : Below w.heap.size w (w3.alloc (.cells #[.int .i64 0, .int .i64 0, .string ⟨#[]⟩] 23)) := B3.alloc B3.size _
  have c1 : (convert 36 9 (.slice (some ⟨g1, 0, none⟩) 9 k1)).run Tryd.prog (w3.alloc (.cells #[.int .i64 0, .int .i64 0, .string ⟨#[]⟩] 23)) = .ok (.string ⟨#[1, 128, 0, 0, 0, 0, 0, 0, 1]⟩) (w3.alloc (.cells #[.int .i64 0, .int .i64 0, .string ⟨#[]⟩] 23)) := conv_row (((hv1.below a2).below b2).below b3a)
  have c2 : (convert 36 9 (.slice (some ⟨g2, 0, none⟩) 4 k2)).run Tryd.prog (w3.alloc (.cells #[.int .i64 0, .int .i64 0, .string ⟨#[]⟩] 23)) = .ok (.string ⟨#[2, 97, 0, 0]⟩) (w3.alloc (.cells #[.int .i64 0, .int .i64 0, .string ⟨#[]⟩] 23)) := conv_row (hv2.below b3a)
  obtain ⟨r0, r1, r2, q0, q1, q2⟩ := Res.new w3
  go_wp2_with fail
  refine (HN.out _ _).mono ?_
  rintro e x4 ⟨rfl, a4⟩
  have A4 := btV B3a a4
  go_wp2_with fail
  refine (H4.out _ (hw.below A4)).mono ?_
  rintro e w4 ⟨rfl, b4⟩
  have B4 := btV A4 b4
  go_wp2_with fail
  refine (HX.out _ _).mono ?_
  rintro e x5 ⟨rfl, a5⟩
  have A5 := btV B4 a5
  go_wp2_with fail
  refine (H5.out _ (hw.below A5)).mono ?_
  rintro e w5 ⟨rfl, b5⟩
  have B5 := btV A5 b5
  go_wp2_with fail
  refine (HN.out _ _).mono ?_
  rintro e x6 ⟨rfl, a6⟩
  have A6 := btV B5 a6
  go_wp2_with fail
  refine (H6.out _).mono ?_
  rintro e w6 ⟨rfl, b6⟩
  have B6 := btV A6 b6
  go_wp2_with fail
  go_ret
  exact ⟨rfl, B6⟩
end Go.Proofs.YtkimibppfniejaaDoor
